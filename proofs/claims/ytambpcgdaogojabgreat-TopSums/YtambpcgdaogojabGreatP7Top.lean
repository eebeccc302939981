/-
  The walk of the law on pairs that are packed, hidden by a tape, added while they are hidden, decrypted and unpacked.
-/
import Derived.Test.YtambpcgdaogojabGreatR6T
import Derived.Test.YtambpcgdaogojabGreatP6A
import Derived.Test.YtambpcgdaogojabGreatF7A
import Derived.Test.YtambpcgdaogojabGreatTapeP
namespace Go.Proofs.YtambpcgdaogojabGreat
open Go.RowKit

theorem drawn_lt {k : Nat} {M n : Int} : ∀ {t : Nat} {L : List Int} {x : Int} {R : List Int}, DrawnIn k M n t L (some x) R → x < n
  | 0, L, x, R, h => by
    rcases h with ⟨_, e, _⟩ | ⟨_, h1, e, _⟩
    · cases e
    · cases e; exact h1
  | t + 1, L, x, R, h => drawn_lt h.2.2
/-- The errors of a draw below a number. -/
theorem below_err {zs L ls : List Int} {e : Int} {R : List Int} (hd : Digs 18446744073709551616 zs) (hr : rightB zs = true) (hp : 0 < zs.length) (h : ResBelow zs L ls e R) : e = 0 ∨ e = 7 := by
  unfold ResBelow at h
  rw [if_pos ⟨hr, hp⟩] at h
  obtain ⟨ms, _, _, _, h⟩ := h
  split at h
  · exact .inl h.2.1
  · obtain ⟨r, ⟨t, hdr⟩, ⟨_, _, e⟩ | ⟨x, rfl, hx⟩⟩ := h
    · exact .inr e
    · have h1 := drawn_lt hdr
      have h2 := val_64 hd hr
      exact .inl (res_fits hx (by omega)).1
theorem hide_err {ns : List Int} (hd : Digs 18446744073709551616 ns) (hr : rightB ns = true) (hp : 0 < ns.length) : ∀ {t : Nat} {L rs : List Int} {e : Int} {R : List Int}, HideIn ns t L rs e R → e = 0 ∨ e = 7
  | 0, _, _, _, _, h => below_err hd hr hp h.1
  | t + 1, _, _, _, _, h => by
    obtain ⟨r1, R1, _, _, h3⟩ := h
    exact hide_err hd hr hp h3
theorem hide_unit {ns : List Int} : ∀ {t : Nat} {L rs R : List Int}, HideIn ns t L rs 0 R → unitB rs ns (nv ns) = true
  | 0, _, _, _, h => by
    rcases h.2 with e | e
    · exact absurd rfl e
    · exact e
  | t + 1, _, _, _, h => by
    obtain ⟨r1, R1, _, _, h3⟩ := h
    exact hide_unit h3
theorem hides_one {P Q : Nat} (hK : KeyOk P Q) : Hides P Q 1 0 := by
  have h2 : 2 ≤ P * Q := by have := hK.facts.2.2.2.2.1; omega
  have h := hides_enc (m := 0) (r := 1) hK (by omega) (Nat.gcd_one_left _)
  have e : (1 + P * Q * 0) * 1 ^ (P * Q) % (P * Q * (P * Q)) = 1 := by
    rw [Nat.mul_zero, Nat.add_zero, Nat.one_pow, Nat.mul_one]
    have h3 := Nat.mul_le_mul h2 h2
    exact Nat.mod_eq_of_lt (by omega)
  rw [e] at h
  exact h
/-- What Draw tells with a key's public part. -/
theorem draw_hides {P Q p : Nat} {ns ps L ls : List Int} {err : Int} {R : List Int} (hK : KeyOk P Q) (hn : IsN ns (P * Q)) (hps : IsN ps p) (hp : p < P * Q) (h : ResDraw ns ps L ls err R) : err = 7 ∨ (err = 0 ∧ ∃ c, Hides P Q c p ∧ IsN ls c) := by
  have hpub := hK.pub hn
  have hpl : plainB ns ps = true := (plainB_iff _ _).2 ⟨hps.2.1, by rw [hps.nv, hn.nv]; exact hp⟩
  have hpos := hn.pos (by omega)
  rcases h with ⟨a, _⟩ | ⟨_, b, _⟩ | ⟨_, _, rs, e, ⟨t, hH⟩, hh⟩
  · rw [hpub] at a; cases a
  · rw [hpl] at b; cases b
  · rcases hh with ⟨he, _, rfl⟩ | ⟨rfl, hT⟩
    · rcases hide_err hn.1 hn.2.1 hpos hH with c | c
      · exact absurd c he
      · exact .inl c
    · have hu := hide_unit hH
      have hf : encF ns ps rs = none := by unfold encF; simp [hpub, hpl, hu]
      have h0 : err = 0 := by
        rcases hT with ⟨e, k, _⟩ | ⟨_, _, k⟩
        · rw [hf] at k; cases k
        · exact k
      subst h0
      obtain ⟨c, h1, h2, _⟩ := enc_hides hK hn hT
      rw [hps.nv] at h1
      exact .inr ⟨rfl, c, h1, h2⟩

/-- A block holds these cells. -/
def RowAt (w : World) (g : Nat) (cur : Array Value) (t : TypeId) : Prop := w.heap[g]? = some (.cells cur t (0, 0))
theorem RowAt.lt {w : World} {g : Nat} {cur : Array Value} {t : TypeId} (h : RowAt w g cur t) : g < w.heap.size := (Array.getElem?_eq_some_iff.1 h).1
theorem RowAt.cell {w : World} {g : Nat} {cur : Array Value} {t : TypeId} (h : RowAt w g cur t) (j : Nat) : w.cell? ⟨g, j, none⟩ = cur[j]? := cell_of_row w g j _ _ _ h
theorem RowAt.frozen {w : World} {g : Nat} {cur : Array Value} {t : TypeId} (h : RowAt w g cur t) (j : Nat) : w.frozen? ⟨g, j, none⟩ = false := frozen_of_row w g j _ _ h
theorem RowAt.below {w w' : World} {g : Nat} {cur : Array Value} {t : TypeId} (h : RowAt w g cur t) (hb : Below w.heap.size w w') : RowAt w' g cur t := (hb.block g h.lt).trans h
theorem RowAt.apart {w w' : World} {g k : Nat} {cur : Array Value} {t : TypeId} (h : RowAt w g cur t) (hg : w.grownBy w' (some k)) (hne : g ≠ k) : RowAt w' g cur t := (hg.block g h.lt (fun e => hne (by simpa using e))).trans h
/-- The two sums lie in block g. -/
def SumAt (w : World) (g : Nat) (x y : Int) : Prop := RowAt w g #[.int .i64 x, .int .i64 y] 38
theorem SumAt.head {w : World} {g : Nat} {x y : Int} (h : SumAt w g x y) : Head w g := by
  refine ⟨_, _, h, fun j z => ?_⟩
  match j with
  | 0 => exact ⟨by simp, by simp⟩
  | 1 => exact ⟨by simp, by simp⟩
  | j + 2 => exact ⟨by simp, by simp⟩
theorem SumAt.put {w : World} {g : Nat} {x y : Int} (h : SumAt w g x y) (x' y' : Int) : SumAt ((w.setCell ⟨g, 0, none⟩ (.int .i64 x')).setCell ⟨g, 1, none⟩ (.int .i64 y')) g x' y' := by
  have h1 := heap_setCell_same w g 0 _ _ (.int .i64 x') h
  have h2 := heap_setCell_same _ g 1 _ _ (.int .i64 y') h1
  exact h2.trans rfl
/-- The key lies in block g. -/
def KeyAt (w : World) (g : Nat) (x y : Int) : Prop := RowAt w g #[.int .u64 x, .int .u64 y] 24
theorem put_grown {w : World} {g : Nat} (x y : Value) : w.grownBy ((w.setCell ⟨g, 0, none⟩ x).setCell ⟨g, 1, none⟩ y) (some g) :=
  ⟨rfl, rfl, rfl, by simp, fun k _ hk => (heap_setCell_other _ ⟨g, 1, none⟩ k y (fun e => hk (by simp [e]))).trans (heap_setCell_other w ⟨g, 0, none⟩ k x (fun e => hk (by simp [e])))⟩

set_option maxRecDepth 40000 in
set_option maxHeartbeats 20000000 in
theorem topsums_walk (hP : PubOk) (hDr : DrawOk) (hA : AddOk) (hD : DecOk) (hR : RmOk) (hPk : PkOk) (hU : UpOk) (P Q : Nat) (a0 a1 : Option Addr) (len0 cap0 len1 cap1 : Nat) (bs : List Int) (w : World) (p1 : P < 18446744073709551616) (q1 : Q < 18446744073709551616) (HPs : PairsAt w a0 len0 cap0) (HBy : Byts w a1 len1 cap1 bs) :
    Calls Tryz.prog 3 #[.agg #[.int .u64 (P : Int), .int .u64 (Q : Int)], .slice a0 len0 cap0, .slice a1 len1 cap1] w fun e w' => e = .returned (.bool true) ∧ Below w.heap.size w w' := by
  have hV := (Below.refl w.heap.size w).alloc (Nat.le_refl _) (.cells #[.int .u64 (P : Int), .int .u64 (Q : Int)] 24)
  have KA : KeyAt (w.alloc (.cells #[.int .u64 (P : Int), .int .u64 (Q : Int)] 24)) w.heap.size (P : Int) (Q : Int) := heap_alloc_new _ _
  replace HBy := HBy.below hV
  have hl0 := HPs.1
  have hl1 := HPs.2.1
  have hk0 := HBy.hcap
  have hk1 := HBy.hmax
  unfold maxLen at hl1 hk1
  go_enter Tryz.func3, Tryz.ntmps3
  go_wp2_with fail
  generalize w.alloc (.cells #[.int .u64 (P : Int), .int .u64 (Q : Int)] 24) = V at *
  refine (hP P Q _ p1 q1).mono ?_
  rintro e w1 ⟨na, nl, nc, ns, ne, rfl, hN, hRes, hb1⟩
  have hB1 := hV.trans (hb1.mono hV.size)
  replace KA := KA.below hb1
  replace HBy := HBy.below hb1
  have hK0 := KA.lt
  clear hV hb1 hP
  rcases hRes with ⟨hK, hn, rfl⟩ | ⟨hK, rfl, rfl⟩
  · by_cases e0 : len0 = 0
    · subst e0
      clear hN hn HPs HBy KA hDr hA hD hR hPk hU
      go_wp2
      go_ret
      exact ⟨rfl, hB1⟩
    by_cases e40 : 40 < len0
    · have e40i : (40 : Int) < (len0 : Int) := by omega
      have e0i : ((len0 : Int) == 0) = false := by simp; omega
      clear hN hn HPs HBy KA hDr hA hD hR hPk hU
      go_wp2
      go_ret
      exact ⟨rfl, hB1⟩
    have e0i : ((len0 : Int) == 0) = false := by simp; omega
    have e40i : decide ((40 : Int) < (len0 : Int)) = false := decide_eq_false (by omega)
    go_wp2_with fail
    refine (tnew_any _ _ _ _ _ HBy).mono ?_
    rintro e w2 ⟨hb2, ⟨hl, rfl⟩ | ⟨hl, g, rfl, hT, hg⟩⟩
    · have hB2 := hB1.trans (hb2.mono hB1.size)
      replace hN := hN.below hb2
      clear hb2 hB1 HBy HPs KA hDr hA hD hPk hU
      go_wp2_with fail
      refine (hR _ _ _ _ (len0 : Int) 1000 10 _ hN (by omega) (by omega) (by omega)).mono ?_
      rintro e w3 ⟨s, se, rfl, _, hb3⟩
      have hB3 := hB2.trans (hb3.mono hB2.size)
      have hli : (65536 : Int) < (len1 : Int) := by omega
      clear hN hB2 hb3 hR hn
      go_wp2
      go_ret
      exact ⟨by simp, hB3⟩
    · have hB2 := hB1.trans (hb2.mono hB1.size)
      have hgw : w.heap.size ≤ g := Nat.le_trans hB1.size hg
      replace hN := hN.below hb2
      replace KA := KA.below hb2
      have hgK : w.heap.size < g := Nat.lt_of_lt_of_le hK0 hg
      clear hb2 hB1 HBy hg hK0
      go_wp2_with fail
      refine (hR _ _ _ _ (len0 : Int) 1000 10 _ hN (by omega) (by omega) (by omega)).mono ?_
      rintro e w3 ⟨s, se, rfl, tS, hb3⟩
      have hB3 := hB2.trans (hb3.mono hB2.size)
      replace hN := hN.below hb3
      replace KA := KA.below hb3
      replace hT := hT.below hb3
      clear hB2 hb3 hR
      obtain ⟨_, _, _, _, f1, f2, f3⟩ := hK.facts
      have hmod : modB ns = true := (modB_iff ns).2 ⟨hn.2.1, by
        have : ns.length ≤ 2 := hn.len (by
          have e : (18446744073709551616 : Int) ^ 2 = 340282366920938463463374607431768211456 := by decide
          omega)
        omega, by rw [hn.nv]; omega⟩
      rcases tS with ⟨hf, rfl, rfl⟩ | ⟨hrB, t, t62, hL, hfit, rfl, rfl⟩ | ⟨_, _, rfl, rfl⟩
      · exfalso
        unfold roomB at hf
        rw [hmod, decide_eq_true (show (1 : Int) ≤ (len0 : Int) by omega)] at hf
        simp at hf
      · have n3 := ((modB_iff ns).1 hmod).2.2
        obtain ⟨T, hTe⟩ : ∃ T : Int, T = 2 ^ t := ⟨_, rfl⟩
        have hT1 : 1 ≤ T := by
          have := pow62 (s := (t : Int)) (by omega)
          rw [Int.toNat_natCast, ← hTe] at this
          exact this.1
        rw [← hTe] at hfit
        have hLP : (len0 : Int) * 10 < T := by rw [hTe]; exact hL.2.1
        have hsB : shB (t : Int) = true := (shB_iff _).2 ⟨by have := hL.1; omega, by omega⟩
        have eT : T = 2 ^ (t : Int).toNat := by rw [Int.toNat_natCast]; exact hTe
        have HK : Hid (∀ (i : Nat) (G H : Int) (S : Nat) (ss : List Int), Run7 (nv ns) T 1000 10 i G H S → i ≤ len0 → IsN ss S → upF ns (t : Int) ss = none ∧ upG ns (t : Int) ss = G ∧ upH ns (t : Int) ss = H) := by
          intro i G H S ss hrun hi hss
          obtain ⟨f1, f2, f3⟩ := hrun.fits (r := (len0 : Int)) (by omega) (by decide) (by decide) hLP hfit
          have hc := hrun.code n3 f1
          have eX : pkX (t : Int) G H = G * T + H := by unfold pkX; rw [← eT]
          have hG := hrun.g
          refine up_of hmod hsB f2 (by rw [← eT]; exact f3) (by rw [eX]; exact f1) ((fitB_iff G).2 ⟨by omega, by omega⟩) ?_
          rw [eX, ← hc]
          exact hss
        have HPx : Hid (∀ (x y : Int), -1000 ≤ x ∧ x ≤ 1000 → 0 ≤ y ∧ y ≤ 10 → pkF ns (t : Int) x y = none ∧ (codV (nv ns) (pkX (t : Int) x y) : Int) = (x * T + y) % (nv ns : Int) ∧ codV (nv ns) (pkX (t : Int) x y) < nv ns) := by
          intro x y hx hy
          have h3 : x * T ≤ (len0 : Int) * 1000 * T := Int.mul_le_mul_of_nonneg_right (by omega) (by omega)
          have h4 : -((len0 : Int) * 1000) * T ≤ x * T := Int.mul_le_mul_of_nonneg_right (by omega) (by omega)
          rw [Int.neg_mul] at h4
          have hX : (x * T + y).natAbs ≤ hlf (nv ns) := by omega
          have eX : pkX (t : Int) x y = x * T + y := by unfold pkX; rw [← eT]
          refine ⟨?_, by rw [eX]; exact cod_mod n3 hX, by rw [eX]; exact (cod_back n3 hX).1⟩
          rw [pk_true hmod hsB hy.1 (by rw [← eT]; omega), eX, if_pos hX]
        have hsr : -9223372036854775808 ≤ (t : Int) ∧ (t : Int) < 9223372036854775808 := by omega
        have HKey : Hid (KeyOk P Q ∧ IsN ns (P * Q)) := ⟨hK, hn⟩
        have nlit := Nums.lit1 w3 1 (by decide) 22
        have b1 := (Below.refl w3.heap.size w3).alloc (Nat.le_refl _) (.cells #[.int .u64 1] 22)
        have b2 := (Below.refl (w3.alloc (.cells #[.int .u64 1] 22)).heap.size (w3.alloc (.cells #[.int .u64 1] 22))).alloc (Nat.le_refl _) (.cells #[.int .i64 0, .int .i64 0] 38)
        have sA : SumAt ((w3.alloc (.cells #[.int .u64 1] 22)).alloc (.cells #[.int .i64 0, .int .i64 0] 38)) (w3.heap.size + 1) 0 0 := by
          have h := heap_alloc_new (w3.alloc (.cells #[.int .u64 1] 22)) (.cells #[.int .i64 0, .int .i64 0] 38)
          rw [World.size_alloc] at h
          exact h
        have b12 := b1.trans (b2.mono b1.size)
        have nlit2 := nlit.below b2
        have KA2 := KA.below b12
        have hT2 := hT.below b12
        have hN2 := hN.below b12
        have hBW := hB3.trans (b12.mono hB3.size)
        have hgS : g < w3.heap.size + 1 := Nat.lt_of_lt_of_le hT.lt (Nat.le_succ _)
        have hwS : w.heap.size < w3.heap.size + 1 := Nat.lt_succ_of_le hB3.size
        clear hmod n3 hrB hL hfit hLP hsB eT hTe hn hK f1 f2 f3 nlit b1 b2 b12 KA hT hN hB3
        go_wp2
        obtain ⟨GS, hGS⟩ : ∃ GS, GS = w3.heap.size + 1 := ⟨_, rfl⟩
        rw [← hGS] at sA hgS hwS
        rw [← hGS]
        clear hGS
        go_loopw [13, 15] (fun v13 v15 wr => ∃ (i : Nat) (G H : Int) (S c : Nat) (sa : Option Addr) (sl sc : Nat) (ss L : List Int), v15 = .int .i64 i ∧ v13 = .slice sa sl sc ∧ Nums wr sa sl sc ss ∧ Hid (IsN ss c ∧ Hides P Q c S ∧ Run7 (nv ns) T 1000 10 i G H S) ∧ i ≤ len0 ∧ SumAt wr GS G H ∧ TapeAt wr g L ∧ Nums wr na nl nc ns ∧ KeyAt wr w.heap.size (P : Int) (Q : Int) ∧ Below w.heap.size w wr) (fun _ v15 _ => len0 + 1 - (intOf v15).toNat)
        case atStart => exact ⟨0, 0, 0, 0, 1, _, _, _, [1], bs, rfl, rfl, nlit2, ⟨⟨fun z hz => by simp at hz; subst hz; decide, by decide, by simp [val]⟩, hides_one HKey.out.1, Run7.start _ _ _ _⟩, Nat.zero_le _, sA, hT2, hN2, KA2, hBW⟩
        case round =>
          clear sA nlit2 KA2 hT2 hN2 hBW
          obtain ⟨i, G, H, S, c, sa, sl, sc, ss, L, rfl, rfl, hS, HS, hi, hSum, hTr, hNr, hKr, hBr⟩ := hrel
          have hrun := HS.out.2.2
          have hG0 := hrun.g
          have hH0 := hrun.h
          have hGb : -40000 ≤ G ∧ G ≤ 40000 := by omega
          have hHb : 0 ≤ H ∧ H ≤ 400 := by omega
          have d0 : wr.cell? ⟨w.heap.size, 0, none⟩ = some (.int .u64 (P : Int)) := (hKr.cell 0).trans rfl
          have d1 : wr.cell? ⟨w.heap.size, 1, none⟩ = some (.int .u64 (Q : Int)) := (hKr.cell 1).trans rfl
          clear hG0 hH0
          by_cases hlt : i < len0
          · have hlti : (i : Int) < (len0 : Int) := by omega
            obtain ⟨b, off, x, y, rfl, q0, q1', g0, g1⟩ := (HPs.below hBr).2.2 i hlt
            have hx := word_of_wfS g0
            have hy := word_of_wfS g1
            by_cases e1 : x < -1000
            · clear HPs hS HS hSum hTr hNr hKr hrun HK HPx HKey hDr hA hD hPk hU
              go_wp2
              go_ret
              exact ⟨rfl, hBr⟩
            have e1d : decide (x < -1000) = false := decide_eq_false e1
            by_cases e2 : 1000 < x
            · clear HPs hS HS hSum hTr hNr hKr hrun HK HPx HKey hDr hA hD hPk hU
              go_wp2
              go_ret
              exact ⟨rfl, hBr⟩
            have e2d : decide (1000 < x) = false := decide_eq_false e2
            by_cases e3 : y < 0
            · clear HPs hS HS hSum hTr hNr hKr hrun HK HPx HKey hDr hA hD hPk hU
              go_wp2
              go_ret
              exact ⟨rfl, hBr⟩
            have e3d : decide (y < 0) = false := decide_eq_false e3
            by_cases e4 : 10 < y
            · clear HPs hS HS hSum hTr hNr hKr hrun HK HPx HKey hDr hA hD hPk hU
              go_wp2
              go_ret
              exact ⟨rfl, hBr⟩
            have e4d : decide (10 < y) = false := decide_eq_false e4
            obtain ⟨k1', k2', k3'⟩ := HPx.out x y ⟨by omega, by omega⟩ ⟨by omega, by omega⟩
            have HP4 := (show Hid _ from hPk _ _ _ _ (t : Int) x y _ hNr hsr hx hy)
            rw [k1'] at HP4
            obtain ⟨p, hp⟩ : ∃ p, p = codV (nv ns) (pkX (t : Int) x y) := ⟨_, rfl⟩
            rw [← hp] at HP4 k2' k3'
            have HRun2 : Hid (Run7 (nv ns) T 1000 10 (i + 1) (G + x) (H + y) ((S + p) % nv ns)) := hrun.step ⟨by omega, by omega⟩ ⟨by omega, by omega⟩ k2'
            have HPn : Hid (p < nv ns) := k3'
            clear k1' k2' k3' hp hrun
            go_wp2_with fail
            refine Calls.mono HP4.out ?_
            rintro e w4 ⟨pa, pl, pc, ps, pe, rfl, hPs, ⟨_, h, _⟩ | ⟨-, hps, rfl⟩, hb4⟩
            · cases h
            have hB4 := hBr.trans (hb4.mono hBr.size)
            replace hS := hS.below hb4
            replace hSum : SumAt w4 GS G H := RowAt.below hSum hb4
            replace hTr := hTr.below hb4
            replace hNr := hNr.below hb4
            replace hKr : KeyAt w4 w.heap.size (P : Int) (Q : Int) := RowAt.below hKr hb4
            clear HP4 hb4 hBr d0 d1 q0 q1'
            go_wp2_with fail
            refine (hDr.2 _ _ _ _ _ _ _ _ _ _ _ hNr hPs hTr).mono ?_
            rintro e w5 ⟨da, dl, dc, ds, de, R, rfl, hDs, rD, hT5, hgr5⟩
            have hh := hTr.head
            have hB5 := grown_new6 hB4 hgw hgr5
            rcases draw_hides HKey.out.1 HKey.out.2 hps (by have := HPn.out; rw [HKey.out.2.nv] at this; exact this) rD with rfl | ⟨rfl, cc, hHc, hcN⟩
            · clear HPs hS HS hSum hTr hNr hKr HK HPx HKey hDr hA hD hPk hU hDs rD hT5 hgr5 hh hPs hps HRun2 HPn
              go_wp2
              go_ret
              exact ⟨by simp, hB5⟩
            replace hS := hS.head hgr5 hh
            replace hSum : SumAt w5 GS G H := RowAt.apart hSum hgr5 (by omega)
            replace hNr := hNr.head hgr5 hh
            replace hKr : KeyAt w5 w.heap.size (P : Int) (Q : Int) := RowAt.apart hKr hgr5 (by omega)
            clear hTr hgr5 hh rD hB4 hPs
            have HA6 := (show Hid _ from hA _ _ _ _ _ _ _ _ _ _ _ _ _ hNr hS hDs)
            go_wp2_with fail
            refine Calls.mono HA6.out ?_
            rintro e w6 ⟨aa, al, ac, as', ae, rfl, hAs, tA, hb6⟩
            obtain ⟨rfl, a, hHa, haN⟩ := add_hides HKey.out.2 HS.out.2.1 hHc HS.out.1 hcN tA
            have hB6 := hB5.trans (hb6.mono hB5.size)
            replace hSum : SumAt w6 GS G H := RowAt.below hSum hb6
            replace hNr := hNr.below hb6
            replace hKr : KeyAt w6 w.heap.size (P : Int) (Q : Int) := RowAt.below hKr hb6
            replace hT5 := hT5.below hb6
            have HS2 : Hid (IsN as' a ∧ Hides P Q a ((S + p) % nv ns) ∧ Run7 (nv ns) T 1000 10 (i + 1) (G + x) (H + y) ((S + p) % nv ns)) := ⟨haN, by rw [HKey.out.2.nv]; exact hHa, HRun2.out⟩
            have s0 : w6.cell? ⟨GS, 0, none⟩ = some (.int .i64 G) := (RowAt.cell hSum 0).trans rfl
            have s1 : w6.cell? ⟨GS, 1, none⟩ = some (.int .i64 H) := (RowAt.cell hSum 1).trans rfl
            have f0 : w6.frozen? ⟨GS, 0, none⟩ = false := RowAt.frozen hSum 0
            have f1 : w6.frozen? ⟨GS, 1, none⟩ = false := RowAt.frozen hSum 1
            have hgp := put_grown (w := w6) (g := GS) (.int .i64 (G + x)) (.int .i64 (H + y))
            have hSum2 := hSum.put (G + x) (H + y)
            have hAs2 := hAs.head hgp hSum.head
            have hNr2 := hNr.head hgp hSum.head
            have hT6 := hT5.apart hgp hSum.head (by omega)
            have hKr2 : KeyAt _ w.heap.size (P : Int) (Q : Int) := RowAt.apart hKr hgp (by omega)
            have hB7 := grown_new6 hB6 (by omega) hgp
            have HE := (show Hid _ from And.intro hSum2 (And.intro hAs2 (And.intro hNr2 (And.intro hT6 (And.intro hKr2 hB7)))))
            clear HA6 hb6 hB5 hS HS hHc hcN hDs tA hHa haN hps HPn HRun2 hSum hNr hKr hT5 hB6 hgp hSum2 hAs2 hNr2 hT6 hKr2 hB7 hAs HK HPx HKey
            go_wp2
            go_roundw
            case rel => exact ⟨i + 1, G + x, H + y, _, a, aa, al, ac, as', R, by go_num, rfl, HE.out.2.1, HS2, by omega, HE.out.1, HE.out.2.2.2.1, HE.out.2.2.1, HE.out.2.2.2.2.1, HE.out.2.2.2.2.2⟩
            case measure => simp [intOf]; omega
          · have hge : ¬ (i : Int) < (len0 : Int) := by omega
            have HD := (show Hid _ from hD P Q _ _ _ _ _ p1 q1 hS)
            clear HPs hTr
            go_wp2_with fail
            refine Calls.mono HD.out ?_
            rintro e w8 ⟨ma, ml, mc, ms, me, rfl, hM, rM, hb8⟩
            obtain ⟨rfl, hmN⟩ := HS.out.2.1.told HS.out.1 rM
            obtain ⟨u1, u2, u3⟩ := HK.out i G H S ms hrun hi hmN
            have hB8 := hBr.trans (hb8.mono hBr.size)
            replace hSum : SumAt w8 GS G H := RowAt.below hSum hb8
            replace hNr := hNr.below hb8
            have HU := (show Hid _ from hU _ _ _ _ _ _ _ _ (t : Int) _ hNr hM hsr)
            rw [u1, u2, u3] at HU
            clear HD hb8 hBr hS HS rM hmN u1 u2 u3 hKr hNr hM HK HPx HKey hDr hA hD hPk hU hrun d0 d1
            go_wp2_with fail
            refine Calls.mono HU.out ?_
            rintro e w9 ⟨gx, gy, ge, rfl, ⟨_, h, _⟩ | ⟨-, rfl, rfl, rfl⟩, hb9⟩
            · cases h
            have hB9 := hB8.trans (hb9.mono hB8.size)
            replace hSum : SumAt w9 GS gx gy := RowAt.below hSum hb9
            have s0 : w9.cell? ⟨GS, 0, none⟩ = some (.int .i64 gx) := (RowAt.cell hSum 0).trans rfl
            have s1 : w9.cell? ⟨GS, 1, none⟩ = some (.int .i64 gy) := (RowAt.cell hSum 1).trans rfl
            clear HU hB8 hb9 hSum
            go_wp2
            go_ret
            exact ⟨by simp, hB9⟩
      · clear hN hn HPs KA hDr hA hD hPk hU hT
        go_wp2
        go_ret
        exact ⟨by simp, hB3⟩
  · clear hN HPs HBy KA hDr hA hD hR hPk hU
    go_wp2
    go_ret
    exact ⟨by simp, hB1⟩
end Go.Proofs.YtambpcgdaogojabGreat
