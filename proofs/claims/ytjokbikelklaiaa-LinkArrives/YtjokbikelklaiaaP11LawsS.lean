/-
  Stage 11's laws: two ends, the program's and the document's, side by side: the walk of LinkScripts.
-/
import Derived.Test.YtjokbikelklaiaaP11LawsA
import Derived.Test.YtjokbikelklaiaaRef11K
import Derived.Deep.CutBlock
namespace Go.Proofs.Ytjokbikelklaiaa
open Go.RowKit

theorem IsFr.inj {f f' : Fr11} {bs : List Int} (h : IsFr f bs) (h' : IsFr f' bs) : f = f' := by
  obtain ⟨d, s, a, b⟩ := f
  obtain ⟨d', s', a', b'⟩ := f'
  obtain ⟨h1, h2, h3, h4⟩ := h.2.inj h'.2 h.1 h'.1
  simp only at h1 h2 h3 h4
  have h2' : s = s' := by omega
  have h3' : a = a' := by omega
  subst h1 h2' h3' h4
  rfl
theorem IsFr.unique {f : Fr11} {ys ys' : List Int} (h : IsFr f ys) (h' : IsFr f ys') : ys = ys' := h.2.unique h'.2
theorem rows_same {fs : List Fr11} {xs ys : List (List Int)} (hx : xs.length = fs.length) (hy : ys.length = fs.length) (h1 : ∀ i, i < fs.length → IsFr (fs.getD i ⟨false, 0, 0, []⟩) (xs.getD i [])) (h2 : ∀ i, i < fs.length → IsFr (fs.getD i ⟨false, 0, 0, []⟩) (ys.getD i [])) : xs = ys := by
  apply List.ext_getElem (by omega)
  intro i k1 k2
  have := (h1 i (by omega)).unique (h2 i (by omega))
  simpa [List.getD, k1, k2] using this
theorem LS.drain_le : ∀ (k : Nat) (x : LS), (LS.drain k x).all.length ≤ x.all.length + k
  | 0, _ => Nat.le_refl _
  | k + 1, x => by
    unfold LS.drain
    cases h : x.hold x.all.length with
    | none => simp
    | some b =>
      have := LS.drain_le k { x with all := x.all ++ [b], hold := fun n => if n = x.all.length then none else x.hold n }
      simp at this ⊢
      omega
theorem LS.in_le (x : LS) (f : Fr11) : (x.inF f).all.length ≤ x.all.length + 16 := by
  unfold LS.inF
  split
  · omega
  · split
    · have := LS.drain_le 16 (LS.keep { x.acked f.ack with owes := true } f.seq f.body)
      rw [(LS.keep_same _ _ _).2.2.2.2.2.2.2] at this
      exact this
    · show x.all.length ≤ _
      omega
theorem LS.send_all (x : LS) (b : List Int) : (x.send b).all = x.all := by
  unfold LS.send
  split <;> rfl
theorem LS.outF_len (x : LS) (h : x.Fine) : x.outF.length ≤ 100 := by
  have h1 := LS.due_le h
  have h2 := h.w16
  have h3 := h.sure
  unfold LS.outF
  split
  · simp
  · unfold LS.outD LS.from
    rw [List.length_map, List.length_range']
    split <;> omega

/-- Two ends lie apart; what they may turn is new since w. -/
structure Two11 (At Bt : World → Nat → LS → (Nat → Prop) → Prop) (w : World) (g k : Nat) (sx sy : LS) (T S : Nat → Prop) (wx : World) : Prop where
  x : At wx g sx T
  y : Bt wx k sy S
  apart : ∀ b, T b → ¬ S b
  newX : ∀ b, T b → w.heap.size ≤ b
  newY : ∀ b, S b → w.heap.size ≤ b
  below : Below w.heap.size w wx
theorem Two11.turn {At Bt : World → Nat → LS → (Nat → Prop) → Prop} {w wx : World} {g k : Nat} {sx sy : LS} {T S : Nat → Prop} (h : Two11 At Bt w g k sx sy T S wx) : Two11 Bt At w k g sy sx S T wx := ⟨h.y, h.x, fun b e q => h.apart b q e, h.newY, h.newX, h.below⟩
theorem Two11.grow {At Bt : World → Nat → LS → (Nat → Prop) → Prop} (A : EndKept11 At) (B : EndKept11 Bt) {w wx wy : World} {g k : Nat} {sx sy : LS} {T S : Nat → Prop} (h : Two11 At Bt w g k sx sy T S wx) (hb : Below wx.heap.size wx wy) : Two11 At Bt w g k sx sy T S wy := ⟨A.below h.x hb, B.below h.y hb, h.apart, h.newX, h.newY, h.below.trans (hb.mono h.below.size)⟩
theorem Two11.step {At Bt : World → Nat → LS → (Nat → Prop) → Prop} (A : EndKept11 At) (B : EndKept11 Bt) {w wx wy : World} {g k : Nat} {sx sx' sy : LS} {T S T' : Nat → Prop} (h : Two11 At Bt w g k sx sy T S wx) (hE : At wy g sx' T' ∧ Only T wx wy ∧ ∀ b, T' b → T b ∨ wx.heap.size ≤ b) : Two11 At Bt w g k sx' sy T' S wy := by
  obtain ⟨k1, k2⟩ := A.beside B h.x h.y h.apart hE
  refine ⟨hE.1, k1, k2, fun b e => ?_, h.newY, h.below.trans (hE.2.1.below h.newX h.below.size)⟩
  rcases hE.2.2 b e with c | c
  · exact h.newX b c
  · exact Nat.le_trans h.below.size c

/-- A step that is asked lies in memory. -/
def StepAt (w : World) (a : Option Addr) (i : Nat) (d t n : Int) (p : Option Addr) (l c : Nat) : Prop := ∃ b off, a = some ⟨b, off, none⟩ ∧ w.cell? ⟨b, off + i * 4, none⟩ = some (.int .i64 d) ∧ w.cell? ⟨b, off + i * 4 + 1, none⟩ = some (.int .i64 t) ∧ w.cell? ⟨b, off + i * 4 + 2, none⟩ = some (.int .i64 n) ∧ w.cell? ⟨b, off + i * 4 + 3, none⟩ = some (.slice p l c)
/-- What a law knows of its steps. -/
def Steps11 (w : World) (a : Option Addr) (len : Nat) : Prop := ∀ i, i < len → ∃ d t n p l c bs, StepAt w a i d t n p l c ∧ Byts w p l c bs ∧ (p = none → c = 0) ∧ l ≤ 140737488355300

set_option maxRecDepth 20000 in
set_option maxHeartbeats 12800000 in
theorem scripts11_walk {At : World → Nat → LS → (Nat → Prop) → Prop} (A : EndOk11 At) (n : Int) (a1 : Option Addr) (len1 cap1 : Nat) (w : World) (hn : -9223372036854775808 ≤ n ∧ n < 9223372036854775808) (HD : Steps11 w a1 len1) :
    Calls Try.prog 4 #[.int .i64 n, .slice a1 len1 cap1] w fun e w' => e = .returned (.bool true) ∧ Below w.heap.size w w' := by
  have HS : Hid (Steps11 w a1 len1) := HD
  clear HD
  go_enter Try.func4, Try.ntmps4
  go_wp2_with fail
  refine (A.new n w hn).mono ?_
  rintro e w1 h1
  rcases h1 with ⟨hb, rfl, k1⟩ | ⟨hb, g, T, rfl, hx, k1, kT⟩
  · go_wp2_with fail
    refine (r11new_any n w1).mono ?_
    rintro e w2 h2
    rcases h2 with ⟨-, rfl, k2⟩ | ⟨hc, -⟩
    · have hBB := bthen k1 k2
      go_wp2
      go_ret
      exact ⟨rfl, hBB⟩
    · rw [hb] at hc
      cases hc
  · go_wp2_with fail
    refine (r11new_any n w1).mono ?_
    rintro e w2 h2
    rcases h2 with ⟨hc, -⟩ | ⟨-, k, S, rfl, hy, k2, kS⟩
    · rw [hb] at hc
      cases hc
    have HT : Hid (Two11 At REnd w g k (LS.new n.toNat) (LS.new n.toNat) T S w2) := ⟨A.below hx k2, hy, fun b e q => by have := (A.foot hx).2.1 b e; have := kS b q; omega, kT, fun b e => Nat.le_trans k1.size (kS b e), bthen k1 k2⟩
    clear hx hy kT kS k1 k2 hb
    go_wp2
    go_loopw [9] (fun v9 wr => ∃ i : Nat, v9 = .int .i64 i ∧ i ≤ len1 ∧ i ≤ 200 ∧ Hid (∃ st T S, Two11 At REnd w g k st st T S wr ∧ st.all.length ≤ 16 * i)) (fun v9 _ => 200 - (intOf v9).toNat)
    case atStart => exact ⟨0, rfl, Nat.zero_le _, by omega, ⟨_, T, S, HT.out, Nat.zero_le _⟩⟩
    case round =>
      clear HT T S
      obtain ⟨i, rfl, hi, hi2, HR⟩ := hrel
      by_cases hlt : i < len1
      · have hlti : (i : Int) < (len1 : Int) := by omega
        by_cases hlt2 : i < 200
        · have hlt2i : (i : Int) < 200 := by omega
          obtain ⟨d, t, m, p, l, c, bs, ⟨b, off, rfl, c0, c1, c2, c3⟩, hby, hnil, hlen⟩ := HS.out i hlt
          obtain ⟨st, T, S, hT, hall⟩ := HR.out
          have hbw := hT.below
          replace c0 := bkeep hbw c0 rfl
          replace c1 := bkeep hbw c1 rfl
          replace c2 := bkeep hbw c2 rfl
          replace c3 := bkeep hbw c3 rfl
          have HV : Hid (Two11 At REnd w g k st st T S (wr.alloc (.cells #[.int .i64 d, .int .i64 t, .int .i64 m, .slice p l c] 33))) := hT.grow A.toEndKept11 rend_kept (balloc wr _)
          have HBy : Hid (∀ wx, Below w.heap.size w wx → Byts wx p l c bs) := fun wx hb => hby.below hb
          have HA : Hid (st.all.length ≤ 16 * i) := hall
          have hTx := hT.x
          have hTy := hT.y
          clear hT hbw hby hall HR
          go_upto_block 2 with fail
          generalize hW : World.alloc wr _ = W at HV ⊢
          obtain ⟨v, hv⟩ : ∃ v, v = wr.heap.size := ⟨_, rfl⟩
          have e3 : W.cell? ⟨v, 3, none⟩ = some (.slice p l c) := by rw [← hW, hv]; simp
          have HNv : Hid (¬ T v ∧ ¬ S v) := by
            have q1 := (A.foot hTx).2.1 v
            have q2 := (rend_kept.foot hTy).2.1 v
            exact ⟨fun e => by have := q1 e; omega, fun e => by have := q2 e; omega⟩
          rw [← hv]
          clear hW hv hTx hTy c0 c1 c2 c3
          go_cut [4] (fun _ wx => Hid (∃ st T S, Two11 At REnd w g k st st T S wx ∧ st.all.length ≤ 16 * i + 16))
          case first =>
            have hTw := HV.out.below
            by_cases d0 : d = 0
            · subst d0
              obtain ⟨z, hz⟩ : ∃ z, z = st.sendE bs := ⟨_, rfl⟩
              have HZ : Hid (z = st.sendE bs) := hz
              clear hz
              have H1 := A.send g st T p l c bs W HV.out.x (HBy.out W hTw) hnil hlen
              rw [← HZ.out] at H1
              have HC1 := (show Hid _ from H1)
              clear H1
              go_wp2_with fail
              refine Calls.mono HC1.out ?_
              rintro e W2 ⟨rfl, T', hE⟩
              have h2 := HV.out.step A.toEndKept11 rend_kept hE
              have e3' : W2.cell? ⟨v, 3, none⟩ = some (.slice p l c) := hE.2.1.cell e3 HNv.out.1
              have H2 := r11send_any k st S p l c bs W2 h2.y (HBy.out W2 h2.below) hnil
              rw [← HZ.out] at H2
              have HC2 := (show Hid _ from H2)
              have HT2 : Hid (Two11 At REnd w g k (st.send bs) st T' S W2) := h2
              clear H2 h2 hE HC1
              go_wp2_with fail
              refine Calls.mono HC2.out ?_
              rintro e W3 ⟨rfl, S', hE3⟩
              have h3 := (HT2.out.turn.step rend_kept A.toEndKept11 hE3).turn
              have HF : Hid (∃ st T S, Two11 At REnd w g k st st T S W3 ∧ st.all.length ≤ 16 * i + 16) := ⟨_, T', S', h3, by rw [LS.send_all]; have := HA.out; omega⟩
              clear h3 hE3 HT2 HC2 HV HZ
              go_wp2
              go_meet
              case rel => exact HF
            have d0d : (d == 0) = false := by simp [d0]
            by_cases d1 : d = 1
            · subst d1
              have HC1 := (show Hid _ from A.tick g st T W HV.out.x)
              clear d0 d0d
              go_wp2_with fail
              refine Calls.mono HC1.out ?_
              rintro e W2 ⟨rfl, T', hE⟩
              have h2 := HV.out.step A.toEndKept11 rend_kept hE
              have HC2 := (show Hid _ from r11tick_any k st S W2 h2.y)
              have HT2 : Hid (Two11 At REnd w g k st.ticked st T' S W2) := h2
              clear h2 hE HC1
              go_wp2_with fail
              refine Calls.mono HC2.out ?_
              rintro e W3 ⟨rfl, S', hE3⟩
              have h3 := (HT2.out.turn.step rend_kept A.toEndKept11 hE3).turn
              have HF : Hid (∃ st T S, Two11 At REnd w g k st st T S W3 ∧ st.all.length ≤ 16 * i + 16) := ⟨_, T', S', h3, by show st.all.length ≤ _; have := HA.out; omega⟩
              clear h3 hE3 HT2 HC2 HV
              go_wp2
              go_meet
              case rel => exact HF
            have d1d : (d == 1) = false := by simp [d1]
            by_cases d2 : d = 2
            · subst d2
              have HC1 := (show Hid _ from A.out g st T W HV.out.x)
              clear d0 d0d d1 d1d
              go_wp2_with fail
              refine Calls.mono HC1.out ?_
              rintro e W2 ⟨u, T', rfl, hE1, hE2, hE3, hrow, -⟩
              have h2 := HV.out.step A.toEndKept11 rend_kept ⟨hE1, hE2, hE3⟩
              have hSo : ∀ b, S b → b < W.heap.size := (rend_kept.foot HV.out.y).2.1
              have hSn : ∀ b, S b → ¬ IsB W2 b := (rend_kept.foot h2.y).2.2
              have hlf := LS.outF_len st (A.foot HV.out.x).1
              have HC2 := (show Hid _ from r11out_any k st S W2 h2.y)
              have HT2 : Hid (Two11 At REnd w g k st.out st T' S W2) := h2
              have HRo : Hid (RowF W.heap.size W2 u st.outF ∧ (∀ b, S b → b < W.heap.size) ∧ (∀ b, S b → ¬ IsB W2 b) ∧ st.outF.length ≤ 100) := ⟨hrow, hSo, hSn, hlf⟩
              obtain ⟨ua, uc, rfl, -, -⟩ := hrow.slice
              clear h2 hE1 hE2 hE3 HC1 hrow hSo hSn hlf
              go_wp2_with fail
              refine Calls.mono HC2.out ?_
              rintro e W3 ⟨u2, S', rfl, hF1, hF2, hF3, hrow2, -⟩
              have h3 := (HT2.out.turn.step rend_kept A.toEndKept11 ⟨hF1, hF2, hF3⟩).turn
              obtain ⟨xs, x1, -, x2, x3⟩ := HRo.out.1.only hF2 HRo.out.2.1 HRo.out.2.2.1
              obtain ⟨ub, ud, rfl, -, -⟩ := hrow2.slice
              obtain ⟨ys, y1, -, y2, y3⟩ := hrow2
              obtain rfl := rows_same x2 y2 x3 y3
              have HC3 := (show Hid _ from same11_any _ _ xs W3 x1 y1 (by rw [x2]; have := HRo.out.2.2.2; omega))
              have HF : ∀ j, Hid (∃ st T S, Two11 At REnd w g k st st T S (W3.drewN j) ∧ st.all.length ≤ 16 * i + 16) := fun j => ⟨_, T', S', h3.grow A.toEndKept11 rend_kept ⟨rfl, rfl, rfl, Nat.le_refl _, fun _ _ => rfl⟩, by show st.all.length ≤ _; have := HA.out; omega⟩
              clear h3 hF1 hF2 hF3 HT2 HC2 HV HRo x1 x2 x3 y1 y2 y3
              go_wp2_with fail
              refine Calls.mono HC3.out ?_
              rintro e W4 ⟨rfl, j, rfl⟩
              clear HC3
              go_wp2
              go_meet
              case rel => exact HF j
            have d2d : (d == 2) = false := by simp [d2]
            by_cases d3 : d = 3
            · subst d3
              have HC1 := (show Hid _ from A.inn g st T p l c bs W HV.out.x (HBy.out W hTw) hnil hlen (by have := HA.out; omega))
              clear d0 d0d d1 d1d d2 d2d
              go_wp2_with fail
              refine Calls.mono HC1.out ?_
              rintro e W2 hI
              have HF0 : Hid (∃ z sx, e = .returned (.int .i64 z) ∧ EndT11 At W g sx T W2 ∧ sx.all.length ≤ st.all.length + 16 ∧ ∀ W2' e' W3, InT11 REnd W2' k st S bs e' W3 → e' = .returned (.int .i64 z) ∧ EndT11 REnd W2' k sx S W3) := by
                rcases hI with ⟨hn, he, hE⟩ | ⟨f, hf, he, hE⟩
                · refine ⟨14, st, he, hE, by omega, fun W2' e' W3 hJ => ?_⟩
                  rcases hJ with ⟨-, he', hE'⟩ | ⟨f', hf', -, -⟩
                  · exact ⟨he', hE'⟩
                  · exact absurd hf' (hn f')
                · refine ⟨st.inE f, st.inF f, he, hE, LS.in_le st f, fun W2' e' W3 hJ => ?_⟩
                  rcases hJ with ⟨hn', -, -⟩ | ⟨f', hf', he', hE'⟩
                  · exact absurd hf (hn' f)
                  · obtain rfl := hf.inj hf'
                    exact ⟨he', hE'⟩
              obtain ⟨z, sx, rfl, ⟨T', hE⟩, hsx, hY⟩ := HF0.out
              have HY : Hid (∀ W2' e' W3, InT11 REnd W2' k st S bs e' W3 → e' = .returned (.int .i64 z) ∧ EndT11 REnd W2' k sx S W3) := hY
              have h2 := HV.out.step A.toEndKept11 rend_kept hE
              have e3' : W2.cell? ⟨v, 3, none⟩ = some (.slice p l c) := hE.2.1.cell e3 HNv.out.1
              have HC2 := (show Hid _ from r11in_any k st S p l c bs W2 h2.y (HBy.out W2 h2.below) hnil hlen (by have := HA.out; omega))
              have HT2 : Hid (Two11 At REnd w g k sx st T' S W2 ∧ sx.all.length ≤ st.all.length + 16) := ⟨h2, hsx⟩
              clear HF0 hI hE hY h2 HC1 hsx
              go_wp2_with fail
              refine Calls.mono HC2.out ?_
              rintro e W3 hJ
              obtain ⟨rfl, S', hE3⟩ := HY.out _ _ _ hJ
              have h3 := (HT2.out.1.turn.step rend_kept A.toEndKept11 hE3).turn
              have HF : Hid (∃ st T S, Two11 At REnd w g k st st T S W3 ∧ st.all.length ≤ 16 * i + 16) := ⟨_, T', S', h3, by have := HT2.out.2; have := HA.out; omega⟩
              clear h3 hE3 HT2 HC2 HV HY hJ
              go_wp2
              go_meet
              case rel => exact HF
            have d3d : (d == 3) = false := by simp [d3]
            by_cases d4 : d = 4
            · subst d4
              have HC1 := (show Hid _ from A.next g st T W HV.out.x)
              clear d0 d0d d1 d1d d2 d2d d3 d3d
              go_wp2_with fail
              refine Calls.mono HC1.out ?_
              rintro e W2 hI
              rcases hI with ⟨hle, rfl, T', hE⟩ | ⟨hlt, q, ql, qc, T', rfl, hE1, hE2, hE3, hB⟩
              · have h2 := HV.out.step A.toEndKept11 rend_kept hE
                have HC2 := (show Hid _ from r11next_any k st S W2 h2.y)
                have HT2 : Hid (Two11 At REnd w g k st st T' S W2 ∧ st.all.length ≤ st.told) := ⟨h2, hle⟩
                clear h2 hE HC1 hle
                go_wp2_with fail
                refine Calls.mono HC2.out ?_
                rintro e W3 hJ
                rcases hJ with ⟨-, rfl, S', hE3⟩ | ⟨hlt, -⟩
                · have h3 := (HT2.out.1.turn.step rend_kept A.toEndKept11 hE3).turn
                  have HF : Hid (∃ st T S, Two11 At REnd w g k st st T S W3 ∧ st.all.length ≤ 16 * i + 16) := ⟨_, T', S', h3, by have := HA.out; omega⟩
                  have q1 := conv_any (Byts.nil W3)
                  clear h3 hE3 HT2 HC2 HV
                  go_wp2
                  go_meet
                  case rel => exact HF
                · exact absurd hlt (by have := HT2.out.2; omega)
              · have h2 := HV.out.step A.toEndKept11 rend_kept ⟨hE1, hE2, hE3⟩
                have HC2 := (show Hid _ from r11next_any k st S W2 h2.y)
                have HT2 : Hid (Two11 At REnd w g k { st with told := st.told + 1 } st T' S W2 ∧ st.told < st.all.length ∧ BytG W2 q ql qc (st.all.getD st.told []) ∧ (∀ b, S b → ¬ IsB W2 b)) := ⟨h2, hlt, hB, (rend_kept.foot h2.y).2.2⟩
                clear h2 hE1 hE2 hE3 hB HC1 hlt
                go_wp2_with fail
                refine Calls.mono HC2.out ?_
                rintro e W3 hJ
                rcases hJ with ⟨hle, -⟩ | ⟨-, r, rl, rc, S', rfl, hF1, hF2, hF3, hB2⟩
                · exact absurd hle (by have := HT2.out.2.1; omega)
                · have h3 := (HT2.out.1.turn.step rend_kept A.toEndKept11 ⟨hF1, hF2, hF3⟩).turn
                  have HF : Hid (∃ st T S, Two11 At REnd w g k st st T S W3 ∧ st.all.length ≤ 16 * i + 16) := ⟨_, T', S', h3, by show st.all.length ≤ _; have := HA.out; omega⟩
                  have q1 := conv_any (HT2.out.2.2.1.only hF2 HT2.out.2.2.2).byts
                  have q2 := conv_any hB2.byts
                  obtain ⟨X, hX⟩ : ∃ X, X = strOf (st.all.getD st.told []) := ⟨_, rfl⟩
                  rw [← hX] at q1 q2
                  clear h3 hF1 hF2 hF3 HT2 HC2 HV hX hB2
                  go_wp2
                  go_meet
                  case rel => exact HF
            have d4d : (d == 4) = false := by simp [d4]
            have HF : Hid (∃ st T S, Two11 At REnd w g k st st T S W ∧ st.all.length ≤ 16 * i + 16) := ⟨st, T, S, HV.out, by have := HA.out; omega⟩
            clear HV
            go_wp2
            go_meet
            case rel => exact HF
          case rest =>
            clear HV HNv e3 HA
            obtain ⟨st', T', S', hT', hall'⟩ := hcut.out
            have HA' : Hid (st'.all.length ≤ 16 * i + 16 ∧ ∀ j, Two11 At REnd w g k st' st' T' S' (wc.drewN j)) := ⟨hall', fun j => hT'.grow A.toEndKept11 rend_kept ⟨rfl, rfl, rfl, Nat.le_refl _, fun _ _ => rfl⟩⟩
            have HSu : ∀ j, Hid (Calls Try.prog 20 #[.pointer (some ⟨g, 0, none⟩)] (wc.drewN j) fun e w' => e = .returned (.int .i64 (st'.sure : Int)) ∧ ∃ m, w' = (wc.drewN j).drewN m) := fun j => A.sure g st' T' _ (HA'.out.2 j).x
            have HGo : ∀ j, Hid (Calls Try.prog 21 #[.pointer (some ⟨g, 0, none⟩)] (wc.drewN j) fun e w' => e = .returned (.int .i64 (st'.all.length : Int)) ∧ ∃ m, w' = (wc.drewN j).drewN m) := fun j => A.got g st' T' _ (HA'.out.2 j).x
            obtain ⟨-, u1, u4', u6, hs, hR⟩ := hT'.y
            have r2 : wc.cell? ⟨k, 2, none⟩ = some (.int .i64 st'.sure) := hR.cell 2
            have r4 : wc.cell? ⟨k, 4, none⟩ = some u4' := hR.cell 4
            obtain ⟨a4, k4, e4, -, hk4, hk5⟩ := hR.all.slice
            rw [e4] at r4
            obtain ⟨n4, hn4⟩ : ∃ n4, n4 = st'.all.length := ⟨_, rfl⟩
            obtain ⟨n2, hn2⟩ : ∃ n2, n2 = st'.sure := ⟨_, rfl⟩
            rw [← hn4] at r4 HGo hk4
            rw [← hn2] at r2 HSu
            unfold maxLen at hk5
            clear hT' hall' hR hcut e4 hn4 hn2
            go_wp2_with fail
            go_quiet (first | (go_at_call 20; exact Calls.quiet_of (HSu _).out) | (go_at_call 21; exact Calls.quiet_of (HGo _).out))
            go_wp2
            go_roundw
            case rel => exact ⟨i + 1, by go_num, by omega, by omega, ⟨st', T', S', HA'.out.2 _, by have := HA'.out.1; omega⟩⟩
            case measure => simp [intOf]; omega
        · obtain rfl : i = 200 := by omega
          obtain ⟨st, T, S, hT, -⟩ := HR.out
          have hBB := hT.below
          clear hT HR
          go_wp2
          go_ret
          exact ⟨rfl, hBB⟩
      · have hlti : decide ((i : Int) < (len1 : Int)) = false := decide_eq_false (by omega)
        have hltn : decide (i < len1) = false := decide_eq_false hlt
        obtain ⟨st, T, S, hT, -⟩ := HR.out
        have hBB := hT.below
        clear hT HR
        go_wp2
        go_ret
        exact ⟨rfl, hBB⟩
end Go.Proofs.Ytjokbikelklaiaa
