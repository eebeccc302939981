/-
  The walk of the law on numbers that are hidden by a tape, put into a message, that into a frame, and all undone.
-/
import Derived.Test.YtnbdbahfekneoaaGreatP7Top
import Derived.Test.YtnbdbahfekneoaaGreatX12Q
import Derived.Test.YtnbdbahfekneoaaGreatR10B
import Derived.Test.YtnbdbahfekneoaaGreatR12G
import Derived.Test.YtnbdbahfekneoaaGreatNatA
import Derived.Deep.RegionWith
import Derived.Deep.RegionHeld3
import Derived.BigRegion
namespace Go.Proofs.YtnbdbahfekneoaaGreat
open Go.RowKit

/-- What Draw tells of any number with a key's public part. -/
theorem draw_any12 {P Q : Nat} {ns ms L ls : List Int} {err : Int} {R : List Int} (hK : KeyOk P Q) (hn : IsN ns (P * Q)) (hd : Digs 18446744073709551616 ms) (h : ResDraw ns ms L ls err R) : err = 10 ∨ err = 7 ∨ (err = 0 ∧ ∃ c, Hides P Q c (nv ms) ∧ IsN ls c ∧ IsN ms (nv ms)) := by
  by_cases hp : plainB ns ms = true
  · obtain ⟨p1, p2⟩ := (plainB_iff _ _).1 hp
    have hms := IsN.self hd p1
    rcases draw_hides hK hn hms (by rw [← hn.nv]; exact p2) h with e | ⟨e, c, h1, h2⟩
    · exact .inr (.inl e)
    · exact .inr (.inr ⟨e, c, h1, h2, hms⟩)
  · rcases h with ⟨a, _⟩ | ⟨_, _, _, e, _⟩ | ⟨_, b, _⟩
    · rw [hK.pub hn] at a; cases a
    · exact .inl e
    · exact absurd b hp
/-- The numbers that hide others make a message that may be. -/
def HideN (P Q : Nat) (ms cs : List (List Int)) (i : Nat) : Prop := ∀ j, j < i → ∃ c, IsN (cs.getD j []) c ∧ Hides P Q c (nv (ms.getD j [])) ∧ IsN (ms.getD j []) (nv (ms.getD j []))
theorem hide_right {P Q : Nat} {ms cs : List (List Int)} (hK : KeyOk P Q) (h : HideN P Q ms cs cs.length) (hl : cs.length ≤ 40) : RightM 3 1 0 0 [] [] cs := by
  have hf := hK.facts
  refine ⟨by decide, by decide, by simp, by simp; omega, by simp, fun i hi => by simp at hi, fun i hi => by simp at hi, fun i hi => ?_⟩
  obtain ⟨c, h1, h2, -⟩ := h i hi
  refine ⟨h1.2.1, h1.len ?_⟩
  have hc := h2.2.2.1
  have hpq : P * Q < 1208925819614629174706176 := by
    have := (mayN_iff (P * Q)).1
    omega
  have hm := Nat.mul_le_mul (Nat.le_of_lt hpq) (Nat.le_of_lt hpq)
  have e : (18446744073709551616 : Int) ^ 4 = 115792089237316195423570985008687907853269984665640564039457584007913129639936 := by decide
  omega

set_option maxRecDepth 100000 in
set_option maxHeartbeats 20000000 in
theorem secret_walk (hP : PubOk) (hDr : DrawOk) (hD : DecOk) (hFe : EncOk10) (hFd : DecOk10) (hWd : DecOk12) (P Q : Nat) (a0 a1 : Option Addr) (len0 cap0 len1 cap1 : Nat) (ms : List (List Int)) (bs : List Int) (w : World) (p1 : P < 18446744073709551616) (q1 : Q < 18446744073709551616) (HM : NRow w a0 len0 cap0 ms) (HBy : Byts w a1 len1 cap1 bs) :
    Calls Tryz.prog 3 #[.agg #[.int .u64 (P : Int), .int .u64 (Q : Int)], .slice a0 len0 cap0, .slice a1 len1 cap1] w fun e w' => e = .returned (.bool true) ∧ Below w.heap.size w w' := by
  have hV := (Below.refl w.heap.size w).alloc (Nat.le_refl _) (.cells #[.int .u64 (P : Int), .int .u64 (Q : Int)] 24)
  have KA : KeyAt (w.alloc (.cells #[.int .u64 (P : Int), .int .u64 (Q : Int)] 24)) w.heap.size (P : Int) (Q : Int) := heap_alloc_new _ _
  replace HBy := HBy.below hV
  have hl0 := HM.hcap
  have hl1 := HM.hmax
  have hk0 := HBy.hcap
  have hk1 := HBy.hmax
  unfold maxLen at hl1 hk1
  have HMs : Hid (NRow w a0 len0 cap0 ms) := HM
  have HML : Hid (ms.length = len0) := HM.hlen
  clear HM
  go_enter Tryz.func3, Tryz.ntmps3
  go_wp2_with fail
  generalize w.alloc (.cells #[.int .u64 (P : Int), .int .u64 (Q : Int)] 24) = V at *
  refine (hP P Q _ p1 q1).mono ?_
  rintro e w1 ⟨na, nl, nc, ns, ne, rfl, hN, hRes, hb1⟩
  have hB1 := hV.trans (hb1.mono hV.size)
  replace KA := KA.below hb1
  replace HBy := HBy.below hb1
  have hK0 := KA.lt
  clear hV hb1 hP
  rcases hRes with ⟨hK, hn, rfl⟩ | ⟨hK, rfl, rfl⟩
  rotate_left
  · clear hN HBy KA hDr hD hFe hFd hWd HMs HML
    go_wp2
    go_ret
    exact ⟨by simp, hB1⟩
  by_cases e40 : 40 < len0
  · have e40i : (40 : Int) < (len0 : Int) := by omega
    clear hN hn HBy KA hDr hD hFe hFd hWd HMs HML
    go_wp2
    go_ret
    exact ⟨by simp, hB1⟩
  have e40i : decide ((40 : Int) < (len0 : Int)) = false := decide_eq_false (by omega)
  have HKey : Hid (KeyOk P Q ∧ IsN ns (P * Q)) := ⟨hK, hn⟩
  go_wp2_with fail
  refine (tnew_any _ _ _ _ _ HBy).mono ?_
  rintro e w2 ⟨hb2, ⟨hl, rfl⟩ | ⟨hl, g, rfl, hT, hg⟩⟩
  · have hB2 := hB1.trans (hb2.mono hB1.size)
    have hli : (65536 : Int) < (len1 : Int) := by omega
    clear hb2 hB1 HBy KA hDr hD hFe hFd hWd hN hn HMs HML HKey hK
    go_wp2
    go_ret
    exact ⟨by simp, hB2⟩
  have hB2 := hB1.trans (hb2.mono hB1.size)
  have hgw : w.heap.size ≤ g := Nat.le_trans hB1.size hg
  replace hN := hN.below hb2
  replace KA := KA.below hb2
  have hgK : w.heap.size < g := Nat.lt_of_lt_of_le hK0 hg
  have hgB := hT.lt
  clear hb2 hB1 HBy hg hK0 hn hK
  obtain ⟨B0, hB0⟩ : ∃ B0, B0 = w2.heap.size := ⟨_, rfl⟩
  rw [← hB0] at hgB
  have hB0le : Hid (B0 ≤ w2.heap.size) := by show _ ≤ _; omega
  clear hB0
  go_wp2
  go_loopw [11, 12] (fun v11 v12 wr => ∃ (i : Nat) (cs : List (List Int)) (L : List Int), v12 = .int .i64 i ∧ i ≤ len0 ∧ NHd wr B0 v11 cs ∧ cs.length = i ∧ Hid (HideN P Q ms cs i) ∧ TapeAt wr g L ∧ Nums wr na nl nc ns ∧ KeyAt wr w.heap.size (P : Int) (Q : Int) ∧ Below w.heap.size w wr ∧ B0 ≤ wr.heap.size) (fun _ v12 _ => len0 + 1 - (intOf v12).toNat)
  case atStart => exact ⟨0, [], bs, rfl, Nat.zero_le _, NHd.nil _ _, rfl, fun j hj => absurd hj (Nat.not_lt_zero _), hT, hN, KA, hB2, hB0le.out⟩
  case round =>
    clear hT hN KA hB2
    obtain ⟨i, cs, L, rfl, hi, hown, hcl, HH, hTr, hNr, hKr, hBr, hBs⟩ := hrel
    by_cases hlt : i < len0
    · have hlti : (i : Int) < (len0 : Int) := by omega
      have hi0 : (0 : Int) ≤ (i : Int) := by omega
      obtain ⟨b, off, rfl, hcm⟩ := (HMs.out.below hBr).cells (by omega)
      obtain ⟨mp, ml, mc, hmc, hMn⟩ := hcm i hlt
      clear hcm
      have hmd := hMn.digs
      have HDr := (show Hid _ from hDr.2 _ _ _ _ _ _ _ _ _ _ _ hNr hMn hTr)
      clear hMn
      go_wp2_with fail
      refine Calls.mono HDr.out ?_
      rintro e w5 ⟨da, dl, dc, ds, de, R, rfl, hDs, rD, hT5, hgr5⟩
      have hh := hTr.head
      have hB5 := grown_new6 hBr hgw hgr5
      have hsz5 := hgr5.size
      rcases draw_any12 HKey.out.1 HKey.out.2 hmd rD with rfl | rfl | ⟨rfl, cc, hHc, hcN, hmN⟩
      · clear hown HH hTr hNr hKr hDr hD hFe hFd hWd hDs rD hT5 hgr5 hh HDr HKey HMs HML hmc
        go_wp2
        go_ret
        exact ⟨by simp, hB5⟩
      · clear hown HH hTr hNr hKr hDr hD hFe hFd hWd hDs rD hT5 hgr5 hh HDr HKey HMs HML hmc
        go_wp2
        go_ret
        exact ⟨by simp, hB5⟩
      have hown5 := hown.head hgr5 hh (fun q e => by have := (hown.own q e).2.1; omega)
      have hN5 := hNr.head hgr5 hh
      have hK5 : KeyAt w5 w.heap.size (P : Int) (Q : Int) := RowAt.apart hKr hgr5 (by omega)
      have hlit := balloc w5 (.cells #[.slice da dl dc] 28)
      have hown6 := hown5.below hlit
      have hD6 := hDs.below hlit
      have hT6 := hT5.below hlit
      have hN6 := hN5.below hlit
      have hK6 : KeyAt (w5.alloc (.cells #[.slice da dl dc] 28)) w.heap.size (P : Int) (Q : Int) := RowAt.below hK5 hlit
      have hB6 := hB5.trans (hlit.mono hB5.size)
      have hil : cs.length < 1000000 := by omega
      have HH2 : Hid (HideN P Q ms (cs ++ [ds]) (i + 1)) := fun j hj => by
        by_cases q : j < i
        · rw [nh_snoc (by omega)]
          exact HH.out j q
        · obtain rfl : j = cs.length := by omega
          rw [nh_last]
          exact ⟨cc, hcN, by rw [← hcl] at hHc; exact hHc, by rw [← hcl] at hmN; exact hmN⟩
      have HS : Hid (NHd (w5.alloc (.cells #[.slice da dl dc] 28)) B0 u11 cs ∧ TapeAt (w5.alloc (.cells #[.slice da dl dc] 28)) g R ∧ Nums (w5.alloc (.cells #[.slice da dl dc] 28)) na nl nc ns ∧ KeyAt (w5.alloc (.cells #[.slice da dl dc] 28)) w.heap.size (P : Int) (Q : Int) ∧ Below w.heap.size w (w5.alloc (.cells #[.slice da dl dc] 28))) := ⟨hown6, hT6, hN6, hK6, hB6⟩
      have hBs6 : B0 ≤ (w5.alloc (.cells #[.slice da dl dc] 28)).heap.size := by simp; omega
      clear hown HH hTr hNr hKr hDs rD hT5 hgr5 hh HDr hown5 hN5 hK5 hlit hT6 hN6 hK6 hB6 hB5 hHc hcN hmN hmd hmc hBr
      go_wp2_with (at_builtin; refine wpList_appNH _ rfl _ _ 25 rfl Tryz.underlying25 B0 _ cs rfl hown6 w5.heap.size da dl dc ds rfl ?c1 hD6 hil hBs6 ?_)
      case c1 => simp
      intro v' w7 hown7 hg7
      have HS7 : Hid (TapeAt w7 g R ∧ Nums w7 na nl nc ns ∧ KeyAt w7 w.heap.size (P : Int) (Q : Int) ∧ Below w.heap.size w w7 ∧ B0 ≤ w7.heap.size) := by
        have hlo := HS.out.1.low hg7 hBs6
        cases ev : u11.ownBlock with
        | none =>
          rw [ev] at hg7
          have hb : Below (w5.alloc (.cells #[.slice da dl dc] 28)).heap.size (w5.alloc (.cells #[.slice da dl dc] 28)) w7 := ⟨hg7.os, hg7.tape, hg7.output, hg7.size, fun k hk => hg7.block k hk (by simp)⟩
          exact ⟨HS.out.2.1.below hb, HS.out.2.2.1.below hb, RowAt.below HS.out.2.2.2.1 hb, HS.out.2.2.2.2.trans (hb.mono HS.out.2.2.2.2.size), Nat.le_trans hBs6 hg7.size⟩
        | some q =>
          rw [ev] at hg7
          obtain ⟨h1, h2, -⟩ := HS.out.1.own q ev
          exact ⟨HS.out.2.1.apart hg7 h1 (by omega), HS.out.2.2.1.head hg7 h1, RowAt.apart HS.out.2.2.2.1 hg7 (by omega), grown_new6 HS.out.2.2.2.2 (by omega) hg7, Nat.le_trans hBs6 hg7.size⟩
      have HCL : Hid ((cs ++ [ds]).length = i + 1) := by show _ = _; simp [hcl]
      clear HS hown6 hD6 hg7
      go_wp2
      go_roundw
      case rel => exact ⟨i + 1, cs ++ [ds], R, by go_num, by omega, hown7, HCL.out, HH2, HS7.out.1, HS7.out.2.1, HS7.out.2.2.1, HS7.out.2.2.2.1, HS7.out.2.2.2.2⟩
      case measure => simp [intOf]; omega
    · obtain rfl : i = len0 := by omega
      obtain ⟨ca, cc, rfl, hNR, -⟩ := hown.row
      rw [hcl] at hNR
      rw [hcl]
      have hRgt : RightM 3 1 0 0 [] [] cs := hide_right (ms := ms) HKey.out.1 (by rw [hcl]; exact HH.out) (by omega)
      have HCd : Hid (DigsN cs) := hNR.digs
      have HE := (show Hid _ from x12enc_any 3 1 0 0 none 0 0 none 0 0 ca i cc [] [] cs wr ⟨Lsts.nil _, Lsts.nil _, hNR⟩)
      have HRg : Hid (RightM 3 1 0 0 [] [] cs) := hRgt
      clear hown hTr hNr hDr hNR hRgt
      go_wp2_with fail
      refine Calls.mono HE.out ?_
      rintro e w3 ⟨wa, wl, wc, ys, we, rfl, hY, hRes, ⟨hyn, -⟩, hb3, herr⟩
      obtain rfl : we = 0 := herr HRg.out (by omega)
      obtain ⟨hmsg, hlen⟩ : IsMsg 3 1 0 0 [] [] cs ys ∧ ys.length ≤ 1048576 := by
        rcases hRes with ⟨-, h1, h2, -⟩ | ⟨-, -, e⟩
        · exact ⟨h1, h2⟩
        · cases e
      have HMsg : Hid (IsMsg 3 1 0 0 [] [] cs ys ∧ ys.length ≤ 1048576) := ⟨hmsg, hlen⟩
      have hB3 := hBr.trans (hb3.mono hBr.size)
      have hK3 : KeyAt w3 w.heap.size (P : Int) (Q : Int) := RowAt.below hKr hb3
      have HF := (show Hid _ from hFe true 0 0 wa wl wc ys w3 hY hyn (by decide) (by decide))
      clear HE hRes hmsg herr hb3 hKr hBr hY hyn hFe
      go_wp2_with fail
      refine Calls.mono HF.out ?_
      rintro e w4 ⟨ua, ul, uc, us, ue, rfl, hU, hResF, ⟨hun, -⟩, hb4⟩
      have hrf : rightFr true 0 0 ys.length = true := (rightFr_iff _ _ _ _).2 ⟨by decide, by decide, by decide, by decide, hlen, .inl rfl⟩
      obtain ⟨hen, rfl⟩ : IsEnc true 0 0 ys us ∧ ue = 0 := by
        rcases hResF with ⟨-, h1, h2⟩ | ⟨h1, -, -⟩
        · exact ⟨h1, h2⟩
        · rw [hrf] at h1; cases h1
      have hul := (enc_len hen hrf).2
      have hul2 := hU.hlen
      have HEn : Hid (IsEnc true 0 0 ys us ∧ rightFr true 0 0 ys.length = true) := ⟨hen, hrf⟩
      have hB4 := hB3.trans (hb4.mono hB3.size)
      have hK4 : KeyAt w4 w.heap.size (P : Int) (Q : Int) := RowAt.below hK3 hb4
      have HG := (show Hid _ from hFd ua ul uc us w4 hU hun (by omega))
      clear HF hResF hb4 hK3 hB3 hU hun hFd hen hrf
      go_wp2_with fail
      refine Calls.mono HG.out ?_
      rintro e w5 ⟨fd, fs, fa, fp, fl, fc, body, fe, rfl, hBd, hResD, ⟨hfn, -⟩, hb5⟩
      obtain ⟨⟨rfl, rfl, rfl, rfl⟩, rfl⟩ := hResD.unique (.inl ⟨HEn.out.2, HEn.out.1, rfl⟩)
      have hb6 := balloc w5 (.cells #[.bool true, .int .i64 0, .int .i64 0, .slice fp fl fc] 43)
      have c3 : (w5.alloc (.cells #[.bool true, .int .i64 0, .int .i64 0, .slice fp fl fc] 43)).cell? ⟨w5.heap.size, 3, none⟩ = some (.slice fp fl fc) := by simp
      have hbl := hBd.hlen
      have HWd := (show Hid _ from hWd fp fl fc body _ (hBd.below hb6) hfn (by omega))
      have hB6 := (hB4.trans (hb5.mono hB4.size)).trans (hb6.mono (hB4.trans (hb5.mono hB4.size)).size)
      have hK6 : KeyAt (w5.alloc (.cells #[.bool true, .int .i64 0, .int .i64 0, .slice fp fl fc] 43)) w.heap.size (P : Int) (Q : Int) := RowAt.below (RowAt.below hK4 hb5) hb6
      clear HG hResD hb5 hb6 hK4 hB4 hBd hfn hWd
      go_wp2_with fail
      refine Calls.mono HWd.out ?_
      rintro e w7 ⟨k, a, b, c, pi, li, ci, pr, lr, cr, pn, ln, cn, ids, rows, nats, er, rfl, ⟨-, -, hNt⟩, hResM, hb7⟩
      obtain ⟨⟨⟨rfl, rfl, rfl, rfl⟩, rfl, rfl, rfl⟩, rfl⟩ := hResM.unique (.inl ⟨HRg.out, HMsg.out.1, HMsg.out.2, rfl⟩) hNt.digs HCd.out
      have hln : ln = i := hNt.hlen.symm.trans hcl
      subst hln
      have hb8 := balloc w7 (.cells #[.int .i64 3, .int .i64 1, .int .i64 0, .int .i64 0, .slice pi li ci, .slice pr lr cr, .slice pn ln cn] 40)
      have hY8 := MsgAt.new w7 3 1 0 0 pi pr pn li ci lr cr ln cn
      have hN8 := hNt.below hb8
      have hB8 := (hB6.trans (hb7.mono hB6.size)).trans (hb8.mono (hB6.trans (hb7.mono hB6.size)).size)
      have hK8 : KeyAt (w7.alloc (.cells #[.int .i64 3, .int .i64 1, .int .i64 0, .int .i64 0, .slice pi li ci, .slice pr lr cr, .slice pn ln cn] 40)) w.heap.size (P : Int) (Q : Int) := RowAt.below (RowAt.below hK6 hb7) hb8
      obtain ⟨⟨m0, m1, m2, m3, m4, m5, m6⟩, -⟩ := hY8.cells
      clear HWd hResM hb7 hb8 hK6 hB6 hNt c3 HEn hul hul2 hbl
      go_wp2
      obtain ⟨Y, hYe⟩ : ∃ Y, Y = w7.heap.size := ⟨_, rfl⟩
      rw [← hYe] at hY8
      rw [← hYe]
      clear m0 m1 m2 m3 m4 m5 m6 hYe
      go_loopw [23] (fun v23 wr => ∃ q : Nat, v23 = .int .i64 q ∧ q ≤ ln ∧ MsgAt wr Y 3 1 0 0 pi li ci pr lr cr pn ln cn ∧ NRow wr pn ln cn nats ∧ KeyAt wr w.heap.size (P : Int) (Q : Int) ∧ Below w.heap.size w wr) (fun v23 _ => ln - (intOf v23).toNat)
      case atStart => exact ⟨0, rfl, Nat.zero_le _, hY8, hN8, hK8, hB8⟩
      case round =>
        clear hY8 hN8 hK8 hB8
        obtain ⟨q, rfl, hq, hYr, hNr, hKr, hBr⟩ := hrel
        by_cases hlt2 : q < ln
        · have hlti2 : (q : Int) < (ln : Int) := by omega
          have hq0 : (0 : Int) ≤ (q : Int) := by omega
          have hnc := hNr.hcap
          have hnm := hNr.hmax
          unfold maxLen at hnm
          obtain ⟨nb, no, rfl, hcc⟩ := hNr.cells (by omega)
          obtain ⟨cp, cl, cc', hcq, hCn⟩ := hcc q hlt2
          clear hcc
          obtain ⟨-, -, -, -, -, -, m6⟩ := hYr.cells.1
          have d0 : wr.cell? ⟨w.heap.size, 0, none⟩ = some (.int .u64 (P : Int)) := (RowAt.cell hKr 0).trans rfl
          have d1 : wr.cell? ⟨w.heap.size, 1, none⟩ = some (.int .u64 (Q : Int)) := (RowAt.cell hKr 1).trans rfl
          obtain ⟨hc1, hc2, hc3⟩ : ∃ c, IsN (nats.getD q []) c ∧ Hides P Q c (nv (ms.getD q [])) ∧ IsN (ms.getD q []) (nv (ms.getD q [])) := HH.out q hlt2
          have HDe : Hid (∀ wx : World, Below wr.heap.size wr wx → Calls Tryz.prog 11 #[.agg #[.int .u64 (P : Int), .int .u64 (Q : Int)], .slice cp cl cc'] wx fun e w' => ∃ xa xl xc, e = .returned (.tuple #[.slice xa xl xc, .int .i64 0]) ∧ Hid (Nums w' xa xl xc (ms.getD q [])) ∧ (w'.cell? ⟨w.heap.size, 0, none⟩ = some (.int .u64 (P : Int)) ∧ w'.cell? ⟨w.heap.size, 1, none⟩ = some (.int .u64 (Q : Int)) ∧ w'.cell? ⟨Y, 6, none⟩ = some (.slice (some ⟨nb, no, none⟩) ln cn) ∧ w'.cell? ⟨nb, no + q, none⟩ = some (.slice cp cl cc')) ∧ Hid (Below wr.heap.size wr w')) := fun wx hbx => by
            refine (hD P Q cp cl cc' _ wx p1 q1 (hCn.below hbx)).mono ?_
            rintro e w' ⟨xa, xl, xc, ls, er, rfl, hX, rX, hb⟩
            obtain ⟨rfl, hx⟩ := hc3.1.told hc2 rX
            rw [hx.unique hc3.2] at hX
            have hbb := bthen hbx hb
            exact ⟨xa, xl, xc, rfl, hX, ⟨bkeep hbb d0 rfl, bkeep hbb d1 rfl, bkeep hbb m6 rfl, bkeep hbb hcq rfl⟩, hbb⟩
          have HRB : Hid (Below wr.heap.size wr wr) := Below.refl _ _
          have HWr : Hid (MsgAt wr Y 3 1 0 0 pi li ci pr lr cr (some ⟨nb, no, none⟩) ln cn ∧ NRow wr (some ⟨nb, no, none⟩) ln cn nats ∧ KeyAt wr w.heap.size (P : Int) (Q : Int) ∧ Below w.heap.size w wr) := ⟨hYr, hNr, hKr, hBr⟩
          clear hYr hNr hKr hBr hCn hc1 hc2 hc3 HH
          go_wp2_with fail
          go_region_held3 (fun w' => (w'.cell? ⟨w.heap.size, 0, none⟩ = some (.int .u64 (P : Int)) ∧ w'.cell? ⟨w.heap.size, 1, none⟩ = some (.int .u64 (Q : Int)) ∧ w'.cell? ⟨Y, 6, none⟩ = some (.slice (some ⟨nb, no, none⟩) ln cn) ∧ w'.cell? ⟨nb, no + q, none⟩ = some (.slice cp cl cc'))) (first | go_keep | exact ⟨n30, n31, n32, n33⟩)
            (first
            | (go_at_call 11; with_reducible refine Calls.mono (HDe.out _ ?_) ?_; (focus (repeat (first | exact HRB.out | refine bdrX' ?_))); rintro e w9 ⟨xa, xl, xc, rfl, hX9, ⟨n30, n31, n32, n33⟩, hb9⟩))
          all_goals
            have hB9 := HWr.out.2.2.2.trans (hb9.out.mono HWr.out.2.2.2.size)
            obtain ⟨b, off, rfl, hcm⟩ := (HMs.out.below hB9).cells (by omega)
            obtain ⟨mp, ml, mc, hmc, hMn⟩ := hcm q hlt2
            have HSm := (show Hid _ from same_any xa mp xl xc ml mc _ _ w9 hX9.out hMn)
            rw [sameB_self] at HSm
            have HW9 : Hid (MsgAt w9 Y 3 1 0 0 pi li ci pr lr cr (some ⟨nb, no, none⟩) ln cn ∧ NRow w9 (some ⟨nb, no, none⟩) ln cn nats ∧ KeyAt w9 w.heap.size (P : Int) (Q : Int) ∧ Below w.heap.size w w9) := ⟨HWr.out.1.kept (hb9.out.block _ HWr.out.1.lt), HWr.out.2.1.below hb9.out, RowAt.below HWr.out.2.2.1 hb9.out, hB9⟩
            clear HDe HRB HWr hcm hMn hB9 hX9 hb9 d0 d1 m6 hcq n30 n31 n32 n33
            go_wp2_with fail
            refine Calls.mono HSm.out ?_
            rintro e w10 ⟨rfl, hb10⟩
            have HW10 : Hid (MsgAt w10 Y 3 1 0 0 pi li ci pr lr cr (some ⟨nb, no, none⟩) ln cn ∧ NRow w10 (some ⟨nb, no, none⟩) ln cn nats ∧ KeyAt w10 w.heap.size (P : Int) (Q : Int) ∧ Below w.heap.size w w10) := ⟨HW9.out.1.kept (hb10.block _ HW9.out.1.lt), HW9.out.2.1.below hb10, RowAt.below HW9.out.2.2.1 hb10, HW9.out.2.2.2.trans (hb10.mono HW9.out.2.2.2.size)⟩
            clear HSm HW9 hb10 hmc
            go_wp2
            go_roundw
            case rel => exact ⟨q + 1, by go_num, by omega, HW10.out.1, HW10.out.2.1, HW10.out.2.2.1, HW10.out.2.2.2⟩
            case measure => simp [intOf]; omega
        · obtain rfl : q = ln := by omega
          go_wp2
          go_ret
          exact ⟨rfl, hBr⟩
end Go.Proofs.YtnbdbahfekneoaaGreat
