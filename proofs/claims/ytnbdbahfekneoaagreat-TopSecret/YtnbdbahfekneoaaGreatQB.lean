/-
  The contract of package paillier's Public.
  The contract of package paillier's Draw.
  The contract of package paillier's Decrypt.
-/
import Derived.Test.YtnbdbahfekneoaaGreatQA
import Derived.Test.YtnbdbahfekneoaaGreatP6A
import Derived.Test.YtnbdbahfekneoaaGreatPrB
import Derived.Test.YtnbdbahfekneoaaGreatTapeP
import Derived.Test.YtnbdbahfekneoaaGreatR6T
import Derived.Test.YtnbdbahfekneoaaGreatInvC
namespace Go.Proofs.YtnbdbahfekneoaaGreat
open Go.RowKit

set_option maxRecDepth 20000 in
set_option maxHeartbeats 3200000 in
theorem pub_ok6 : PubOk := by
  intro P Q w p1 q1
  have hV := (Below.refl w.heap.size w).alloc (Nat.le_refl _) (.cells #[.int .u64 (P : Int), .int .u64 (Q : Int)] 24)
  have q0 : (w.alloc (.cells #[.int .u64 (P : Int), .int .u64 (Q : Int)] 24)).cell? ⟨w.heap.size, 0, none⟩ = some (.int .u64 (P : Int)) := by simp
  have q1' : (w.alloc (.cells #[.int .u64 (P : Int), .int .u64 (Q : Int)] 24)).cell? ⟨w.heap.size, 1, none⟩ = some (.int .u64 (Q : Int)) := by simp
  go_enter Tryz.func4, Tryz.ntmps4
  go_wp2_with fail
  generalize w.alloc (.cells #[.int .u64 (P : Int), .int .u64 (Q : Int)] 24) = V at *
  refine (check_any P Q _ p1 q1).mono ?_
  rintro e V3 ⟨hC, hb⟩
  have hx := hV.trans (hb.mono hV.size)
  replace q0 := bkeep hb q0 rfl
  replace q1' := bkeep hb q1' rfl
  clear hV hb
  rcases hC with ⟨hK, rfl⟩ | ⟨hK, rfl⟩
  · obtain ⟨_, _, _, _, hn1, hn2, _⟩ := hK.facts
    have HK : Hid (KeyOk P Q) := hK
    clear hK
    have HOf : Hid (∀ (n : Nat) (wx : World), n < 18446744073709551616 → Below V3.heap.size V3 wx → Calls Tryz.prog 16 #[.int .u64 (n : Int)] wx fun e w' => ∃ pa pn pc, e = .returned (.slice pa pn pc) ∧ (Nums w' pa pn pc (ofZ (n : Int)) ∧ Below wx.heap.size wx w' ∧ Below V3.heap.size V3 w') ∧ w'.cell? ⟨w.heap.size, 0, none⟩ = some (.int .u64 (P : Int)) ∧ w'.cell? ⟨w.heap.size, 1, none⟩ = some (.int .u64 (Q : Int))) := by
      intro n wx hn hbx
      refine (of_any (n : Int) wx (by omega)).mono ?_
      rintro e w' ⟨pa, pn, pc, rfl, hA, hb⟩
      have hb' := hbx.trans (hb.mono hbx.size)
      exact ⟨pa, pn, pc, rfl, ⟨hA, hb, hb'⟩, bkeep hb' q0 rfl, bkeep hb' q1' rfl⟩
    have HMu : Hid (∀ (a b : Option Addr) (la ca lb cb : Nat) (wx : World), Nums wx a la ca (ofZ (P : Int)) → Nums wx b lb cb (ofZ (Q : Int)) → Below V3.heap.size V3 wx → Calls Tryz.prog 14 #[.func (.func 15) #[] #[], .slice a la ca, .slice b lb cb] wx fun e w' => ∃ a' n c ls, e = .returned (.slice a' n c) ∧ (Nums w' a' n c ls ∧ IsN ls (P * Q) ∧ Below V3.heap.size V3 w')) := by
      intro a b la ca lb cb wx h1 h2 hbx
      refine (smul_any _ _ _ _ _ _ _ _ _ _ _ h1 h2 (IsN.of p1) (IsN.of q1) (by
        have e2 : (18446744073709551616 : Int) ^ 2 ≤ 18446744073709551616 ^ 64 := by decide
        have e1 : (18446744073709551616 : Int) ^ 2 = 340282366920938463463374607431768211456 := by decide
        omega)).mono ?_
      rintro e w' ⟨a', n, c, ls, rfl, hL, r1, k5⟩
      exact ⟨a', n, c, ls, rfl, hL, r1, hbx.trans (k5.mono hbx.size)⟩
    clear hn1 hn2
    go_upto_region 4 with fail
    go_cut [2, 3] (fun sv ev wx => ∃ a n c ls, sv = .slice a n c ∧ ev = .int .i64 0 ∧ Nums wx a n c ls ∧ IsN ls (P * Q) ∧ Below V3.heap.size V3 wx)
    case first =>
      clear HK hx
      go_region_with (first
        | (go_at_call 16; refine (HOf.out _ _ ?_ ?_).mono ?_; (assumption); (exact ⟨hA.2.2.os, hA.2.2.tape, hA.2.2.output, hA.2.2.size, hA.2.2.block⟩); rintro e wB ⟨qa, qn, qc, rfl, hB, p2, p3⟩; have hA2 := hA.1.below (w' := wB) ⟨hB.2.1.os, hB.2.1.tape, hB.2.1.output, hB.2.1.size, hB.2.1.block⟩)
        | (go_at_call 16; refine (HOf.out _ _ ?_ ?_).mono ?_; (assumption); (exact ⟨rfl, rfl, rfl, Nat.le_refl _, fun _ _ => rfl⟩); rintro e wA ⟨pa, pn, pc, rfl, hA, p0, p1⟩)
        | (go_at_call 14; refine (HMu.out _ _ _ _ _ _ _ ?_ ?_ ?_).mono ?_; (first | exact hA2.alike (fun _ => rfl) | exact hB.1.alike (fun _ => rfl)); (first | exact hB.1.alike (fun _ => rfl) | exact hA2.alike (fun _ => rfl)); (exact ⟨hB.2.2.os, hB.2.2.tape, hB.2.2.output, hB.2.2.size, hB.2.2.block⟩); rintro e wM ⟨ma, mn, mc, ls, rfl, hM⟩))
      all_goals
        clear HOf HMu hA hB hA2
        go_wp2_with fail
        go_meet
        case rel => exact ⟨ma, mn, mc, ls, rfl, rfl, hM.1, hM.2.1, ⟨hM.2.2.os, hM.2.2.tape, hM.2.2.output, hM.2.2.size, hM.2.2.block⟩⟩
    case rest =>
      obtain ⟨na, nn, nc, ns, rfl, rfl, hN, hI, hb3⟩ := hcut
      have hx4 := hx.trans (hb3.mono hx.size)
      have HR : Hid (PubT P Q w (.returned (.tuple #[.slice na nn nc, .int .i64 0])) wc) := ⟨na, nn, nc, ns, 0, rfl, hN, .inl ⟨HK.out, hI, rfl⟩, hx4⟩
      clear HOf HMu hx hb3 HK hN hI q0 q1'
      go_wp2
      go_ret2
      exact HR.out
  · have HR : Hid (PubT P Q w (.returned (.tuple #[.slice none 0 0, .int .i64 9])) V3) := ⟨none, 0, 0, [], 9, rfl, Nums.nil _, .inr ⟨hK, rfl, rfl⟩, hx⟩
    clear hK
    go_wp2
    go_ret2
    exact HR.out
end Go.Proofs.YtnbdbahfekneoaaGreat

namespace Go.Proofs.YtnbdbahfekneoaaGreat
open Go.RowKit

/-- What is drawn of a tape to hide behind, as it lies in memory. -/
def HiderT (w : World) (g : Nat) (ns L : List Int) (e : Ending) (w' : World) : Prop :=
  ∃ a l c ls err R, e = .returned (.tuple #[.slice a l c, .int .i64 err]) ∧ Nums w' a l c ls ∧ (∃ rs, Hide ns L rs err R ∧ (err = 0 → ls = rs)) ∧ TapeAt w' g R ∧ w.grownBy w' (some g)

set_option maxRecDepth 20000 in
set_option maxHeartbeats 1600000 in
theorem hider_any (a : Option Addr) (la ca : Nat) (ns : List Int) (g : Nat) (L : List Int) (w : World) (h : Nums w a la ca ns) (hp : pubB ns = true) (hT : TapeAt w g L) :
    Calls Tryz.prog 20 #[.slice a la ca, .pointer (some ⟨g, 0, none⟩)] w fun e w' => HiderT w g ns L e w' := by
  obtain ⟨rn, n1, n2, n3⟩ := (pubB_iff ns).1 hp
  have hn := IsN.self h.digs rn
  have hnd := h.digs
  have hv2 : 2 ≤ val 18446744073709551616 ns := by rw [hn.2.2]; omega
  have hn2 : 2 ≤ nv ns := by omega
  have HN : Hid (IsN ns (nv ns) ∧ 2 ≤ nv ns) := ⟨hn, hn2⟩
  clear hp n1 n2 n3 hn hn2
  go_enter Tryz.func20, Tryz.ntmps20
  go_wp2
  go_loopg [9] (L.length + 1) (fun q _ wr => ∃ Lc, q = Lc.length + 1 ∧ TapeAt wr g Lc ∧ Hid (∀ rs e R, Hide ns Lc rs e R → Hide ns L rs e R) ∧ Nums wr a la ca ns ∧ w.grownBy wr (some g))
  case atStart => exact ⟨L, rfl, hT, fun rs e R hd => hd, h, World.grownBy.refl _ _⟩
  case round =>
    clear h hT
    obtain ⟨Lc, hq, hTc, HC, m, hgr⟩ := hrel
    have hh := hTc.head
    go_wp2_with fail
    refine (tbelow_any _ _ _ _ _ _ _ m hTc).mono ?_
    rintro e w4 ⟨ra, rl, rc, rs, re, R, rfl, hR, hres, hT4, hg4⟩
    have o := m.head hg4 hh
    have hgr4 := grown_trans hgr hg4
    clear hTc m hgr hg4 hh
    by_cases he : re = 0
    · subst he
      have hless := hres.less hnd rn hv2
      have H3 := (show Hid _ from phider_any _ _ _ _ _ _ _ _ _ _ o hR HN.out.1 HN.out.2)
      cases h3 : unitB rs ns (nv ns) with
      | false =>
        rw [h3] at H3
        have HC2 : Hid (∀ rs e R', Hide ns R rs e R' → Hide ns L rs e R') := fun rs' e' R' hd => HC.out _ _ _ (Hide.miss hres h3 hd)
        go_wp2_with fail
        refine Calls.mono H3.out ?_
        rintro e w5 ⟨rfl, hb5⟩
        have hT5 := hT4.below hb5
        have x := o.below hb5
        have hgr5 := grown_trans hgr4 (grown_of_below hb5 (some g))
        clear H3 HC hR hres hT4 o hgr4 hb5
        go_wp2
        go_roundg (R.length + 1)
        case rel => exact ⟨R, rfl, hT5, HC2, x, hgr5⟩
        case measure => rw [hq]; omega
      | true =>
        rw [h3] at H3
        have HH := (show Hid _ from HC.out _ _ _ (Hide.hit hres h3))
        go_wp2_with fail
        refine Calls.mono H3.out ?_
        rintro e w5 ⟨rfl, hb5⟩
        have hT5 := hT4.below hb5
        have hR5 := hR.below hb5
        have hgr5 := grown_trans hgr4 (grown_of_below hb5 (some g))
        clear H3 HC hR hres hT4 o hgr4 hb5
        go_wp2
        go_ret2
        exact ⟨ra, rl, rc, rs, 0, R, rfl, hR5, ⟨rs, HH.out, fun _ => rfl⟩, hT5, hgr5⟩
    · have hne : (re != 0) = true := by simp [he]
      have HH := (show Hid _ from HC.out _ _ _ (Hide.over hres he))
      clear HC hres hR o
      go_wp2
      go_ret2
      exact ⟨none, 0, 0, [], re, R, rfl, Nums.nil _, ⟨rs, HH.out, fun e => absurd e he⟩, hT4, hgr4⟩

theorem draw_split (ns ms : List Int) : ((if pubB ns then (if plainB ns ms then (0 : Int) else 10) else 1) = 0 ∧ pubB ns = true ∧ plainB ns ms = true ∧ noneF ns ms = 1) ∨
    ((if pubB ns then (if plainB ns ms then (0 : Int) else 10) else 1) ≠ 0 ∧ noneF ns ms = (if pubB ns then (if plainB ns ms then (0 : Int) else 10) else 1) ∧ (∀ L, ResDraw ns ms L [] (if pubB ns then (if plainB ns ms then (0 : Int) else 10) else 1) L)) := by
  unfold noneF ResDraw
  cases pubB ns <;> cases plainB ns ms <;> simp

set_option maxRecDepth 20000 in
set_option maxHeartbeats 1600000 in
theorem draw_nil6 (a b : Option Addr) (la ca lb cb : Nat) (ns ms : List Int) (w : World) (h : Nums w a la ca ns) (h' : Nums w b lb cb ms) :
    Calls Tryz.prog 6 #[.slice a la ca, .slice b lb cb, .pointer none] w fun e w' => ∃ x l c, e = .returned (.tuple #[.slice x l c, .int .i64 (noneF ns ms)]) ∧ Nums w' x l c [] ∧ Below w.heap.size w w' := by
  have hdg := h.digs
  have hS := draw_split ns ms
  go_enter Tryz.func6, Tryz.ntmps6
  go_wp2_with fail
  refine (mkplain_any _ _ _ _).mono ?_
  rintro e w1 ⟨rfl, hb1⟩
  have k := h.below hb1
  have k' := h'.below hb1
  have HF := (show Hid _ from fault1_any _ _ _ _ _ 10 _ _ _ _ _ _ k k' (fun hp => kind_plain hp hdg))
  clear h h'
  go_wp2_with fail
  refine Calls.mono HF.out ?_
  rintro e w2 ⟨rfl, hb2⟩
  have hB2 := hb1.trans (hb2.mono hb1.size)
  clear HF k k' hb1 hb2
  obtain ⟨x, hx⟩ : ∃ x, x = (if pubB ns then (if plainB ns ms then (0 : Int) else 10) else 1) := ⟨_, rfl⟩
  rw [← hx] at hS
  rw [← hx]
  clear hx
  rcases hS with ⟨rfl, -, -, hF⟩ | ⟨hne, hF, -⟩
  · have HF : Hid (noneF ns ms = 1) := hF
    clear hF
    go_wp2
    go_ret2
    exact ⟨none, 0, 0, by rw [HF.out]; rfl, Nums.nil _, hB2⟩
  · have HF : Hid (noneF ns ms = x) := hF
    have hz0 : (x == 0) = false := by simpa using hne
    clear hF hne
    go_wp2
    go_ret2
    exact ⟨none, 0, 0, by rw [HF.out]; rfl, Nums.nil _, hB2⟩

set_option maxRecDepth 20000 in
set_option maxHeartbeats 3200000 in
theorem draw_tape6 (a b : Option Addr) (la ca lb cb : Nat) (ns ms : List Int) (g : Nat) (L : List Int) (w : World) (h : Nums w a la ca ns) (h' : Nums w b lb cb ms) (hT : TapeAt w g L) :
    Calls Tryz.prog 6 #[.slice a la ca, .slice b lb cb, .pointer (some ⟨g, 0, none⟩)] w fun e w' => DrawT TapeAt w g ns ms L e w' := by
  have hdg := h.digs
  have hS := draw_split ns ms
  go_enter Tryz.func6, Tryz.ntmps6
  go_wp2_with fail
  refine (mkplain_any _ _ _ _).mono ?_
  rintro e w1 ⟨rfl, hb1⟩
  have k := h.below hb1
  have k' := h'.below hb1
  have hT1 := hT.below hb1
  have HF := (show Hid _ from fault1_any _ _ _ _ _ 10 _ _ _ _ _ _ k k' (fun hp => kind_plain hp hdg))
  clear h h' hT
  go_wp2_with fail
  refine Calls.mono HF.out ?_
  rintro e w2 ⟨rfl, hb2⟩
  have hB2 := hb1.trans (hb2.mono hb1.size)
  have m := k.below hb2
  have m' := k'.below hb2
  have hT2 := hT1.below hb2
  clear HF k k' hb1 hb2 hT1
  obtain ⟨x, hx⟩ : ∃ x, x = (if pubB ns then (if plainB ns ms then (0 : Int) else 10) else 1) := ⟨_, rfl⟩
  rw [← hx] at hS
  rw [← hx]
  clear hx
  rcases hS with ⟨rfl, hp, hm, -⟩ | ⟨hne, -, hF⟩
  · have HRD : Hid (∀ rs e ls err R, Hide ns L rs e R → ((e ≠ 0 ∧ ls = [] ∧ err = e) ∨ (e = 0 ∧ Told (encF ns ms rs) (encV ns ms rs) ls err)) → ResDraw ns ms L ls err R) := fun rs e ls err R k1 k2 => .inr (.inr ⟨hp, hm, rs, e, k1, k2⟩)
    have hh := hT2.head
    go_wp2_with fail
    refine (hider_any _ _ _ _ _ _ _ m hp hT2).mono ?_
    rintro e w3 ⟨ra, rl, rc, ls, re, R, rfl, hR, ⟨rs, hH, hls⟩, hT3, hg3⟩
    have o := m.head hg3 hh
    have o' := m'.head hg3 hh
    have hgr := grown_trans (grown_of_below hB2 (some g)) hg3
    clear m m' hT2 hg3 hh hB2
    by_cases he : re = 0
    · subst he
      obtain rfl := hls rfl
      have HH : Hid (Hide ns L ls 0 R) := hH
      clear hH hls
      go_wp2_with fail
      refine (enc_ok6 _ _ _ _ _ _ _ _ _ _ _ _ _ o o' hR).mono ?_
      rintro e w6 ⟨ya, yl, yc, ys, ye, rfl, hY, tY, hb6⟩
      have hT6 := hT3.below hb6
      have hgr6 := grown_trans hgr (grown_of_below hb6 (some g))
      have HF : Hid (ResDraw ns ms L ys ye R) := HRD.out _ _ _ _ _ HH.out (.inr ⟨rfl, tY⟩)
      clear HH HRD o o' hR hT3 hgr hb6 tY
      go_wp2
      go_ret2
      exact ⟨ya, yl, yc, ys, ye, R, rfl, hY, HF.out, hT6, hgr6⟩
    · have hne : (re != 0) = true := by simp [he]
      have HF : Hid (ResDraw ns ms L [] re R) := HRD.out _ _ _ _ _ hH (.inl ⟨he, rfl, rfl⟩)
      clear hH hls HRD o o' hR
      go_wp2
      go_ret2
      exact ⟨none, 0, 0, [], re, R, rfl, Nums.nil _, HF.out, hT3, hgr⟩
  · have HF : Hid (ResDraw ns ms L [] x L) := hF L
    have hz0 : (x == 0) = false := by simpa using hne
    have hgr := grown_of_below hB2 (some g)
    clear hF hne m m' hB2
    go_wp2
    go_ret2
    exact ⟨none, 0, 0, [], x, L, rfl, Nums.nil _, HF.out, hT2, hgr⟩

theorem draw_ok6 : DrawOk := ⟨draw_nil6, draw_tape6⟩
end Go.Proofs.YtnbdbahfekneoaaGreat

namespace Go.Proofs.YtnbdbahfekneoaaGreat
open Go.RowKit

/-- What is reckoned is what is hidden. -/
theorem qdec_of {n f c i : Nat} (hn : 2 ≤ n) (hi : f * i % n = 1) : Dec n f c ((c ^ f % (n * n) - 1) / n * i % n) := by
  refine ⟨Nat.mod_lt _ (by omega), ?_⟩
  have h1 : (c ^ f % (n * n) - 1) / n = lam n f c := rfl
  rw [h1, Nat.mul_mod, Nat.mod_mod, ← Nat.mul_mod, Nat.mul_assoc, Nat.mul_comm i f, Nat.mul_mod, hi, Nat.mul_one, Nat.mod_mod]
theorem qdec_less {n f c : Nat} (hn : 2 ≤ n) (hc : c ^ f % n = 1) : 1 ≤ c ^ f % (n * n) ∧ c ^ f % (n * n) < n * n ∧ (c ^ f % (n * n) - 1) / n < n := by
  obtain ⟨h1, h2⟩ := lam_eq hn hc
  refine ⟨by omega, Nat.mod_lt _ (Nat.mul_pos (by omega) (by omega)), h2⟩
theorem qinv_told {fs ns ls : List Int} {f n : Nat} {err : Int} (hf : IsN fs f) (hn : IsN ns n) (h2 : 2 ≤ n) (hg : Nat.gcd n f = 1) (h : ResInv fs ns ls err) : ∃ i, IsN ls i ∧ i < n ∧ f * i % n = 1 := by
  unfold ResInv at h
  rw [hf.2.1, hn.2.1, hf.2.2, hn.2.2, if_pos (by simp; omega)] at h
  have e : gz (n : Int) (f : Int) = 1 := by unfold gz; rw [Int.toNat_natCast, Int.toNat_natCast, hg]; rfl
  rw [if_pos e] at h
  obtain ⟨_, hd, hr, hlt, hm⟩ := h
  rw [nv_val hd] at hlt hm
  refine ⟨nv ls, IsN.self hd hr, by omega, ?_⟩
  rw [← Int.natCast_mul, ← Int.natCast_emod] at hm
  omega

theorem sinv_any (a b : Option Addr) (la ca lb cb : Nat) (fs ns : List Int) (f n : Nat) (w : World) (h : Nums w a la ca fs) (h' : Nums w b lb cb ns) (hf : IsN fs f) (hn : IsN ns n) (h2 : 2 ≤ n) (hg : Nat.gcd n f = 1) :
    Calls Tryz.prog 14 #[.func (.func 41) #[] #[], .slice a la ca, .slice b lb cb] w fun e w' => SureT (fun ls => ∃ i, IsN ls i ∧ i < n ∧ f * i % n = 1) w e w' := by
  refine sure_any _ _ _ _ _ _ _ _ _ Tryz.call41 ?_
  refine (inverse_of _ _ _ _ _ _ _ _ _ h h').mono ?_
  rintro e w' ⟨a', k, c', ls, err, rfl, hL, hR, hb⟩
  exact ⟨a', k, c', ls, err, rfl, hL, qinv_told hf hn h2 hg hR, hb⟩

set_option maxRecDepth 20000 in
set_option maxHeartbeats 6400000 in
theorem dec_ok6 : DecOk := by
  intro P Q a la ca cs w p1 q1 h
  have hV := (Below.refl w.heap.size w).alloc (Nat.le_refl _) (.cells #[.int .u64 (P : Int), .int .u64 (Q : Int)] 24)
  have c0 : (w.alloc (.cells #[.int .u64 (P : Int), .int .u64 (Q : Int)] 24)).cell? ⟨w.heap.size, 0, none⟩ = some (.int .u64 (P : Int)) := by simp
  have c1 : (w.alloc (.cells #[.int .u64 (P : Int), .int .u64 (Q : Int)] 24)).cell? ⟨w.heap.size, 1, none⟩ = some (.int .u64 (Q : Int)) := by simp
  have h0 := h.below hV
  clear h
  go_enter Tryz.func11, Tryz.ntmps11
  go_wp2_with fail
  generalize w.alloc (.cells #[.int .u64 (P : Int), .int .u64 (Q : Int)] 24) = V at *
  refine (pub_ok6 P Q _ p1 q1).mono ?_
  rintro e w1 ⟨na, nl, nc, ns, ne, rfl, hN, hP, hb1⟩
  have hB1 := hV.trans (hb1.mono hV.size)
  have k := h0.below hb1
  replace c0 := bkeep hb1 c0 rfl
  replace c1 := bkeep hb1 c1 rfl
  clear h0 hV hb1
  rcases hP with ⟨hK, hn, rfl⟩ | ⟨hK, rfl, rfl⟩
  · have HK : Hid (KeyOk P Q) := hK
    have hvc := valid_cipher (cs := cs) hK hn
    have hpub : pubB ns = true := by unfold pubB; rw [hn.2.1, hn.nv, hK.may]; rfl
    have hnd := hN.digs
    clear hK
    go_wp2_with fail
    refine (mkcipher_any _ _ _ _).mono ?_
    rintro e w1' ⟨rfl, hb1'⟩
    have hB1' := hB1.trans (hb1'.mono hB1.size)
    have hN' := hN.below hb1'
    have k' := k.below hb1'
    replace c0 := bkeep hb1' c0 rfl
    replace c1 := bkeep hb1' c1 rfl
    have HF := (show Hid _ from fault1_any _ _ _ _ _ 11 _ _ _ _ _ _ hN' k' (fun hp => kind_cipher hp hnd))
    rw [hpub, hvc] at HF
    clear hvc hpub hN k hB1 hb1' hnd
    cases hv : cipherB P Q cs with
    | false =>
      rw [hv] at HF
      go_wp2_with fail
      refine Calls.mono HF.out ?_
      rintro e w2 ⟨rfl, hb2⟩
      have hB2 := hB1'.trans (hb2.mono hB1'.size)
      have HR : Hid (DecT P Q cs w (.returned (.tuple #[.slice none 0 0, .int .i64 11])) w2) := ⟨none, 0, 0, [], 11, rfl, Nums.nil _, .inr (.inl ⟨HK.out, hv, rfl, rfl⟩), hB2⟩
      clear HF hN' k' c0 c1
      go_wp2
      go_ret2
      exact HR.out
    | true =>
      rw [hv] at HF
      obtain ⟨rc, cp, clt, cg⟩ := (cipherB_iff P Q cs).1 hv
      have hcs := IsN.self k'.digs rc
      obtain ⟨-, -, -, hgcd, n1, n2, n3⟩ := HK.out.facts
      have hmN := HK.out.may
      have hE := HK.out.euler cg
      have kP := HK.out.1
      have kQ := HK.out.2.1
      have lP : P < 18446744073709551616 := by omega
      have lQ : Q < 18446744073709551616 := by omega
      go_wp2_with fail
      refine Calls.mono HF.out ?_
      rintro e w2 ⟨rfl, hb2⟩
      have hx := hB1'.trans (hb2.mono hB1'.size)
      have q0 := bkeep hb2 c0 rfl
      have q1' := bkeep hb2 c1 rfl
      have m := hN'.below hb2
      have m' := k'.below hb2
      clear HF hN' k' c0 c1 hB1' hb2
      obtain ⟨V4, hV4⟩ : ∃ V4, V4 = w2 := ⟨_, rfl⟩
      subst hV4
      have wP : IntKind.u64.wrap ((P : Int) - 1) = ((P - 1 : Nat) : Int) := by rw [wrap64]; omega
      have wQ : IntKind.u64.wrap ((Q : Int) - 1) = ((Q - 1 : Nat) : Int) := by rw [wrap64]; omega
      have HwP : Hid (0 ≤ IntKind.u64.wrap ((P : Int) - 1) ∧ IntKind.u64.wrap ((P : Int) - 1) < 18446744073709551616) := by show _ ∧ _; rw [wP]; omega
      have HwQ : Hid (0 ≤ IntKind.u64.wrap ((Q : Int) - 1) ∧ IntKind.u64.wrap ((Q : Int) - 1) < 18446744073709551616) := by show _ ∧ _; rw [wQ]; omega
      have HOf : Hid (∀ (n : Int) (wx : World), 0 ≤ n ∧ n < 18446744073709551616 → Below V4.heap.size V4 wx → Calls Tryz.prog 16 #[.int .u64 n] wx fun e w' => ∃ pa pn pc, e = .returned (.slice pa pn pc) ∧ (Nums w' pa pn pc (ofZ n) ∧ Below wx.heap.size wx w' ∧ Below V4.heap.size V4 w') ∧ w'.cell? ⟨w.heap.size, 0, none⟩ = some (.int .u64 (P : Int)) ∧ w'.cell? ⟨w.heap.size, 1, none⟩ = some (.int .u64 (Q : Int))) := by
        intro n wx hn hbx
        refine (of_any n wx hn).mono ?_
        rintro e w' ⟨pa, pn, pc, rfl, hA, hb⟩
        have hb' := hbx.trans (hb.mono hbx.size)
        exact ⟨pa, pn, pc, rfl, ⟨hA, hb, hb'⟩, bkeep hb' q0 rfl, bkeep hb' q1' rfl⟩
      have HMu : Hid (∀ (a b : Option Addr) (la ca lb cb : Nat) (wx : World), Nums wx a la ca (ofZ (IntKind.u64.wrap ((P : Int) - 1))) → Nums wx b lb cb (ofZ (IntKind.u64.wrap ((Q : Int) - 1))) → Below V4.heap.size V4 wx → Calls Tryz.prog 14 #[.func (.func 15) #[] #[], .slice a la ca, .slice b lb cb] wx fun e w' => ∃ a' n c ls, e = .returned (.slice a' n c) ∧ (Nums w' a' n c ls ∧ IsN ls ((P - 1) * (Q - 1)) ∧ Below V4.heap.size V4 w')) := by
        intro a b la ca lb cb wx h1 h2 hbx
        rw [wP] at h1
        rw [wQ] at h2
        have hle : (P - 1) * (Q - 1) ≤ P * Q := Nat.mul_le_mul (by omega) (by omega)
        refine (smul_any _ _ _ _ _ _ _ _ _ _ _ h1 h2 (IsN.of (show P - 1 < 18446744073709551616 by omega)) (IsN.of (show Q - 1 < 18446744073709551616 by omega)) (by
          have e2 : (18446744073709551616 : Int) ^ 2 ≤ 18446744073709551616 ^ 64 := by decide
          have e1 : (18446744073709551616 : Int) ^ 2 = 340282366920938463463374607431768211456 := by decide
          omega)).mono ?_
        rintro e w' ⟨a', n, c, ls, rfl, hL, r1, k5⟩
        exact ⟨a', n, c, ls, rfl, hL, r1, hbx.trans (k5.mono hbx.size)⟩
      clear wP wQ
      go_upto_region 7 with fail
      go_cut [9] (fun sv wx => ∃ a n c ls, sv = .slice a n c ∧ Nums wx a n c ls ∧ IsN ls ((P - 1) * (Q - 1)) ∧ Below V4.heap.size V4 wx)
      case first =>
        clear HK hx m m' hn hcs hE hgcd hmN cg clt
        go_region_with (first
          | (go_at_call 16; refine (HOf.out _ _ ?_ ?_).mono ?_; (first | exact HwP.out | exact HwQ.out); (exact ⟨hA.2.2.os, hA.2.2.tape, hA.2.2.output, hA.2.2.size, hA.2.2.block⟩); rintro e wB ⟨qa, qn, qc, rfl, hB, p2, p3⟩; have hA2 := hA.1.below (w' := wB) ⟨hB.2.1.os, hB.2.1.tape, hB.2.1.output, hB.2.1.size, hB.2.1.block⟩)
          | (go_at_call 16; refine (HOf.out _ _ ?_ ?_).mono ?_; (first | exact HwP.out | exact HwQ.out); (exact ⟨rfl, rfl, rfl, Nat.le_refl _, fun _ _ => rfl⟩); rintro e wA ⟨pa, pn, pc, rfl, hA, p0, p1⟩)
          | (go_at_call 14; refine (HMu.out _ _ _ _ _ _ _ ?_ ?_ ?_).mono ?_; (first | exact hA2.alike (fun _ => rfl) | exact hB.1.alike (fun _ => rfl)); (first | exact hB.1.alike (fun _ => rfl) | exact hA2.alike (fun _ => rfl)); (exact ⟨hB.2.2.os, hB.2.2.tape, hB.2.2.output, hB.2.2.size, hB.2.2.block⟩); rintro e wM ⟨ma, mn, mc, ls, rfl, hM⟩))
        all_goals
          clear HOf HMu hA hB hA2
          go_wp2_with fail
          go_meet
          case rel => exact ⟨ma, mn, mc, ls, rfl, hM.1, hM.2.1, ⟨hM.2.2.os, hM.2.2.tape, hM.2.2.output, hM.2.2.size, hM.2.2.block⟩⟩
      case rest =>
        obtain ⟨fa, fl, fc, fs, rfl, hF, hf, hb3⟩ := hcut
        have hB3 := hx.trans (hb3.mono hx.size)
        have o := m.below hb3
        have o' := m'.below hb3
        clear HOf HMu hx hb3 q0 q1' m m' HwP HwQ
        obtain ⟨n, hne⟩ : ∃ n, n = P * Q := ⟨_, rfl⟩
        obtain ⟨f, hfe⟩ : ∃ f, f = (P - 1) * (Q - 1) := ⟨_, rfl⟩
        have HR : Hid (∀ (a : Option Addr) (l c : Nat) (ls : List Int) (x : Nat) (w' : World), Dec n f (nv cs) x → IsN ls x → Nums w' a l c ls → Below w.heap.size w w' → DecT P Q cs w (.returned (.tuple #[.slice a l c, .int .i64 0])) w') := fun a l c ls x w' hD hL hN hb => ⟨a, l, c, ls, 0, rfl, hN, .inl ⟨HK.out, hv, rfl, x, by rw [← hne, ← hfe]; exact hD, hL⟩, hb⟩
        have hfle : f ≤ n := by rw [hne, hfe]; exact Nat.mul_le_mul (by omega) (by omega)
        rw [← hne] at hn hgcd n1 n2 n3 hmN hE clt cg
        rw [← hfe] at hf hgcd hE
        have hfl := two_len hf (by omega)
        clear hne hfe HK hv lP lQ kP kQ p1 q1
        obtain ⟨d1, d2, d3⟩ := qdec_less (n := n) (f := f) (c := nv cs) (by omega) hE
        have HPw := (show Hid _ from ppower_any _ _ _ _ _ _ _ _ _ _ _ _ _ _ _ _ o o' hF hn hcs hf hmN clt hfl)
        obtain ⟨u, hu⟩ : ∃ u, u = nv cs ^ f % (n * n) := ⟨_, rfl⟩
        have HU : Hid (u = nv cs ^ f % (n * n)) := hu
        rw [← hu] at HPw d1 d2 d3
        clear hu
        go_wp2_with fail
        refine Calls.mono HPw.out ?_
        rintro e w5 ⟨ua, ul, uc, us, rfl, hU, hus, hb5⟩
        have hB5 := hB3.trans (hb5.mono hB3.size)
        have q := o.below hb5
        have hF5 := hF.below hb5
        have HTm : Hid (((u - 1 : Nat) : Int) < 18446744073709551616 ^ 64) := by
          have h1 := sq_bd3 n2
          have h2 : (18446744073709551616 : Int) ^ 3 ≤ 18446744073709551616 ^ 64 := by decide
          show _ < _
          omega
        clear HPw hB3 hb5 o o' hF
        go_wp2_with fail
        refine (timesOf_any _ _ _ _ _ _ _ _ _ _ _ q hU hn hus (by omega) d1 HTm.out).mono ?_
        rintro e w6 ⟨va, vl, vc, vs', rfl, hVn, hvs, hb6⟩
        have hB6 := hB5.trans (hb6.mono hB5.size)
        have r := q.below hb6
        have hF6 := hF5.below hb6
        clear hB5 hb6 q hF5 hU hus HTm
        go_wp2_with fail
        refine (sinv_any _ _ _ _ _ _ _ _ _ _ _ hF6 r hf hn (by omega) hgcd).mono ?_
        rintro e w7 ⟨ia, il, ic, is, rfl, hIn, ⟨i, his, hin, hif⟩, hb7⟩
        have hB7 := hB6.trans (hb7.mono hB6.size)
        have s := r.below hb7
        have hV7 := hVn.below hb7
        have HD := (show Hid _ from qdec_of (n := n) (f := f) (c := nv cs) (i := i) (by omega) hif)
        rw [← HU.out] at HD
        have HM : Hid (((((u - 1) / n) * i : Nat) : Int) < 18446744073709551616 ^ 64) := by
          have h0 : (u - 1) / n * i ≤ n * n := Nat.mul_le_mul (by omega) (by omega)
          have h1 := sq_bd3 n2
          have h2 : (18446744073709551616 : Int) ^ 3 ≤ 18446744073709551616 ^ 64 := by decide
          show _ < _
          omega
        clear hB6 hb7 r hF6 hVn hif hE HU d1 d2 d3
        generalize (u - 1) / n = v at *
        go_wp2_with fail
        refine (smul_any _ _ _ _ _ _ _ _ _ _ _ hV7 hIn hvs his HM.out).mono ?_
        rintro e w8 ⟨ya, yl, yc, ys, rfl, hY, hy, hb8⟩
        have hB8 := hB7.trans (hb8.mono hB7.size)
        have t := s.below hb8
        clear hB7 hb8 s hV7 hIn hvs his HM
        go_wp2_with fail
        refine (restOf_any _ _ _ _ _ _ _ _ _ _ _ hY t hy hn (by omega)).mono ?_
        rintro e w9 ⟨za, zl, zc, zs, rfl, hZ, hz, hb9⟩
        have HY : Hid (DecT P Q cs w (.returned (.tuple #[.slice za zl zc, .int .i64 0])) w9) := HR.out _ _ _ _ _ _ HD.out hz hZ (hB8.trans (hb9.mono hB8.size))
        clear HD HR hB8 hb9 hZ hz hY hy t
        go_wp2
        go_ret2
        exact HY.out
  · have HR : Hid (DecT P Q cs w (.returned (.tuple #[.slice none 0 0, .int .i64 9])) w1) := ⟨none, 0, 0, [], 9, rfl, Nums.nil _, .inr (.inr ⟨hK, rfl, rfl⟩), hB1⟩
    clear hK hN k
    go_wp2
    go_ret2
    exact HR.out
end Go.Proofs.YtnbdbahfekneoaaGreat
