/-
  The contract of the program's Decode (frame).
-/
import Derived.Test.YtpoipobmkfphcaaX10E
namespace Go.Proofs.Ytpoipobmkfphcaa
open Go.RowKit

theorem enc_parts {d : Bool} {s a : Int} {body L : List Int} (h : IsEnc d s a body L) : L.drop (L.length - 4) = be4 (sumC (L.take (L.length - 4))) ∧ IsHead d s a body (L.take (L.length - 4)) := by
  obtain ⟨m, h1, rfl⟩ := h
  have e : (m ++ be4 (sumC m)).length - 4 = m.length := by simp [be4]
  rw [e, List.take_left, List.drop_left]
  exact ⟨rfl, h1⟩
theorem parts_enc {d : Bool} {s a : Int} {body L : List Int} (h1 : L.drop (L.length - 4) = be4 (sumC (L.take (L.length - 4)))) (h2 : IsHead d s a body (L.take (L.length - 4))) : IsEnc d s a body L :=
  ⟨_, h2, by rw [← h1, List.take_append_drop]⟩

set_option maxRecDepth 20000 in
set_option maxHeartbeats 6400000 in
theorem f10dec_any (b : Option Addr) (lb cb : Nat) (L : List Int) (w : World) (h : Byts w b lb cb L) (hlen : lb ≤ 140737488355300) :
    Calls Try.prog 13 #[.slice b lb cb] w fun e w' => DecT L w e w' := by
  have hcap := h.hcap
  have hmax := h.hmax
  unfold maxLen at hmax
  have HL : Hid (L.length = lb) := h.hlen
  have hV := balloc w (.cells #[.bool false, .int .i64 0, .int .i64 0, .slice none 0 0] 27)
  have hR := CellF.new w false 0 0 none 0 0
  obtain ⟨V, hVe⟩ : ∃ V, V = w.alloc (.cells #[.bool false, .int .i64 0, .int .i64 0, .slice none 0 0] 27) := ⟨_, rfl⟩
  have HVe : Hid (V = w.alloc (.cells #[.bool false, .int .i64 0, .int .i64 0, .slice none 0 0] 27)) := hVe
  rw [← hVe] at hV hR
  have h1 := h.below hV
  clear hVe h
  obtain ⟨X, hX⟩ : ∃ X : Bool, X = !decide (4 ≤ lb ∧ L.drop (lb - 4) = be4 (sumC (L.take (lb - 4)))) := ⟨_, rfl⟩
  have HX : Hid (X = !decide (4 ≤ lb ∧ L.drop (lb - 4) = be4 (sumC (L.take (lb - 4))))) := hX
  clear hX
  obtain ⟨e4, he4⟩ : ∃ e4 : Int, (lb : Int) - 4 = e4 := ⟨_, rfl⟩
  go_enter Try.func13, Try.ntmps13
  go_wp2_with fail
  rw [← HVe.out]
  obtain ⟨G, hG⟩ : ∃ G, G = w.heap.size := ⟨_, rfl⟩
  rw [← hG] at hR
  rw [← hG]
  have HG : Hid (w.heap.size ≤ G) := by show _ ≤ _; rw [hG]; exact Nat.le_refl _
  clear HVe hG
  have BAD : ∀ wx : World, (∀ d s a body, rightFr d s a body.length = true → ¬ IsEnc d s a body L) → Below w.heap.size w wx → Hid (DecT L w (.returned (.tuple #[.agg #[.bool false, .int .i64 0, .int .i64 0, .slice none 0 0], .int .i64 14])) ((((wx.setCell ⟨G, 0, none⟩ (.bool false)).setCell ⟨G, 1, none⟩ (.int .i64 0)).setCell ⟨G, 2, none⟩ (.int .i64 0)).setCell ⟨G, 3, none⟩ (.slice none 0 0))) := fun wx hn hb => ⟨false, 0, 0, none, 0, 0, [], 14, rfl, Byts.nil _, .inr ⟨hn, ⟨rfl, rfl, rfl, rfl⟩, rfl⟩, ⟨fun _ => rfl, fun _ e => (by cases e)⟩, putF_below hb HG.out _ _ _ _⟩
  go_cut [22] (fun v wx => v = .bool X ∧ Below V.heap.size V wx)
  case first =>
    clear BAD hR hV
    by_cases h4 : lb < 4
    · have h4d : decide (e4 < 0) = true := decide_eq_true (by omega)
      have HT : Hid (X = true) := by show _ = _; rw [HX.out, decide_eq_false (fun e => by omega)]; rfl
      clear h1 HX
      go_quiet (fail)
      go_wp2_with fail
      go_meet
      case rel => exact ⟨by rw [HT.out], below_drewN (Below.refl _ _) _⟩
    · obtain ⟨B, off, rfl, -⟩ := h1.cells (by omega)
      obtain ⟨E, rfl⟩ : ∃ E : Nat, e4 = (E : Int) := ⟨lb - 4, by omega⟩
      have hEn : lb - 4 = E := by omega
      have hEl : E + 4 = lb := by omega
      have k1 := h1.take10 (k := E) (by omega)
      have k2 := h1.drop (m := E) (by omega)
      rw [hEn] at HX
      have h4d : decide ((E : Int) < 0) = false := decide_eq_false (by omega)
      have hcE : E ≤ cb := by omega
      have hcE2 : E ≤ lb := by omega
      have hne : ¬ cb = E := by omega
      have hl4 : lb - E = 4 := by omega
      have HRB : Hid (Below V.heap.size V V) := Below.refl _ _
      rw [hl4] at k2
      have HSu : Hid (∀ wx : World, Below V.heap.size V wx → Calls Try.prog 23 #[.slice (some ⟨B, off, none⟩) E cb] wx fun e w' => ∃ q, e = .returned (.slice (some q) 4 4) ∧ Hid (Byts w' (some q) 4 4 (be4 (sumC (L.take E))) ∧ Below V.heap.size V w')) := by
        intro wx hbx
        refine (f10four_any _ _ _ _ wx (k1.below hbx)).mono ?_
        rintro e w' ⟨q, rfl, hq, hb⟩
        exact ⟨q, rfl, hq, bthen hbx hb⟩
      have HEq : Hid (∀ (wx : World) (q : Addr), Byts wx (some q) 4 4 (be4 (sumC (L.take E))) → Below V.heap.size V wx → Calls Try.prog 26 #[.slice (some ⟨B, off + E, none⟩) 4 (cb - E), .slice (some q) 4 4] wx fun e w' => e = .returned (.bool (!X)) ∧ Hid (Below V.heap.size V w')) := by
        intro wx q hq hbx
        refine (equal10_any _ _ _ _ _ _ _ _ wx (k2.below hbx) hq).mono ?_
        rintro e w' ⟨rfl, hb⟩
        refine ⟨?_, bthen hbx hb⟩
        rw [HX.out, Bool.not_not]
        have : decide (4 ≤ lb ∧ L.drop E = be4 (sumC (L.take E))) = decide (L.drop E = be4 (sumC (L.take E))) := by
          rw [decide_eq_decide]
          exact ⟨fun h => h.2, fun h => ⟨by omega, h⟩⟩
        rw [this]
      clear k1 k2 h1 HX hEn h4
      go_region_held3 (fun _ => True) (trivial)
        (first
        | (go_at_call 23; with_reducible refine Calls.mono (HSu.out _ ?_) ?_; (focus (repeat (first | exact HRB.out | refine bdrX' ?_ | refine bgrX ?_ _))); rintro e w3 ⟨q, rfl, hS3⟩)
        | (go_at_call 26; with_reducible refine Calls.mono (HEq.out _ q ?_ ?_) ?_; (focus (first | exact hS3.out.1 | exact hS3.out.1.below (bdrX _))); (focus (repeat (first | exact hS3.out.2 | refine bdrX' ?_ | refine bgrX ?_ _))); rintro e w4 ⟨rfl, hB4⟩))
      all_goals
        clear HSu HEq HRB
        go_wp2_with fail
        go_meet
        case rel => exact ⟨by first | rfl | simp, hB4.out⟩
  case rest =>
    obtain ⟨rfl, hbc⟩ := hcut
    have hRc := hR.below hbc
    have hBc := bthen hV hbc
    have h2 := h1.below hbc
    clear hR hV h1 hbc
    cases X with
    | true =>
      have HB := BAD wc (fun d s a body hr he => by
        have e := HX.out
        have k := (enc_parts he).1
        have l8 := (dec_first he hr).1
        rw [HL.out] at k l8
        rw [decide_eq_true ⟨by omega, k⟩] at e
        cases e) hBc
      obtain ⟨r0, r1, r2, r3, f0, f1, f2, f3⟩ := hRc
      clear BAD h2 hBc HX
      go_wp2_with fail
      exact bodyPost_ret (v := .tuple #[.agg #[.bool false, .int .i64 0, .int .i64 0, .slice none 0 0], .int .i64 14]) (by simp [results, Try.results13, go_sem, r0, r1, r2, r3]) rfl HB.out
    | false =>
      have hXX : 4 ≤ lb ∧ L.drop (lb - 4) = be4 (sumC (L.take (lb - 4))) := by
        have e := HX.out
        exact of_decide_eq_true (by cases hd : decide (4 ≤ lb ∧ L.drop (lb - 4) = be4 (sumC (L.take (lb - 4)))) with | true => rfl | false => rw [hd] at e; cases e)
      obtain ⟨h4, hXs⟩ := hXX
      obtain ⟨B, off, rfl, -⟩ := h2.cells (by omega)
      obtain ⟨E, rfl⟩ : ∃ E : Nat, e4 = (E : Int) := ⟨lb - 4, by omega⟩
      have hEn : lb - 4 = E := by omega
      have k1 := h2.take10 (k := E) (by omega)
      have hcE : E ≤ cb := by omega
      have HP : Hid (L.drop (L.length - 4) = be4 (sumC (L.take (L.length - 4))) ∧ L.take (L.length - 4) = L.take E) := by
        rw [HL.out]
        exact ⟨hXs, by rw [hEn]⟩
      have hE3 : E ≤ 140737488355300 := by omega
      clear hXs HX h4 hEn
      go_wp2_with fail
      refine (c9new_any _ _ _ _ _ k1 hE3).mono ?_
      rintro e w2 ⟨g, rfl, hg, hA, hb2⟩
      have hR2 := hRc.below hb2
      have hB2 := bthen hBc hb2
      have hGg : G ≠ g := by have := hRc.lt; omega
      have hwg : w.heap.size ≤ g := Nat.le_trans hBc.size hg
      clear hRc hBc h2 k1
      go_wp2_with fail
      refine (f10read_any g _ _ hA).mono ?_
      rintro e w3 ⟨d, s, a, p, l, c, ys, ok, rfl, hy, hyf, hok, hno, hgr⟩
      have hR3 := hR2.grown hgr hGg
      have hB3 : Below w.heap.size w w3 := hB2.grown hgr hB2.size (fun q hq => by cases hq; exact hwg)
      have HYF : Hid (∀ ad, p = some ad → 0 < l → w.heap.size ≤ ad.block) := fun ad e h0 => Nat.le_trans hB2.size (hyf.2 ad e h0).1
      have HI3 : Hid (IsBs w3 p l) := fun ad e h0 => (hyf.2 ad e h0).2
      have HPN : Hid (p = none → c = 0) := hyf.1
      have hFn := balloc w3 (.cells #[.bool d, .int .i64 s, .int .i64 a, .slice p l c] 27)
      have hR4 := hR3.below hFn
      have HF := CellF.new w3 d s a p l c
      have hy4 := hy.below hFn
      have HI4 : Hid (IsBs (w3.alloc (.cells #[.bool d, .int .i64 s, .int .i64 a, .slice p l c] 27)) p l) := HI3.out.below hFn
      have hB4 := bthen hB3 hFn
      obtain ⟨r0, r1, r2, r3, f0, f1, f2, f3⟩ := hR4
      have hRc : CellF (w3.alloc (.cells #[.bool d, .int .i64 s, .int .i64 a, .slice p l c] 27)) G false 0 0 none 0 0 := ⟨r0, r1, r2, r3, f0, f1, f2, f3⟩
      have HOK : Hid (ok = true → rightFr d s a ys.length = true ∧ IsHead d s a ys (L.take E)) := hok
      have HNO : Hid (ok = false → ∀ d s a body, rightFr d s a body.length = true → ¬ IsHead d s a body (L.take E)) := hno
      clear hR2 hB2 hgr hyf hok hno hB3 hFn hR3 hy HI3 hb2 hA hg
      cases ok with
      | false =>
        have HB := BAD _ (fun d s a body hr he => HNO.out rfl d s a body hr (by have := (enc_parts he).2; rwa [HP.out.2] at this)) hB4
        clear BAD hB4 hy4 HF hRc
        go_wp2_with fail
        exact bodyPost_ret (v := .tuple #[.agg #[.bool false, .int .i64 0, .int .i64 0, .slice none 0 0], .int .i64 14]) (by simp [results, Try.results13, go_sem, r0, r1, r2, r3]) rfl HB.out
      | true =>
        have HD : Hid (ResDec L d s a ys 0) := .inl ⟨(HOK.out rfl).1, parts_enc HP.out.1 (by rw [HP.out.2]; exact (HOK.out rfl).2), rfl⟩
        have k1 := Byts.putF hRc hy4 (.bool d) (.int .i64 s) (.int .i64 a) (.slice p l c)
        have hBB := putF_below hB4 HG.out (.bool d) (.int .i64 s) (.int .i64 a) (.slice p l c)
        have HI5 := IsBs.putF HI4.out G (.bool d) (.int .i64 s) (.int .i64 a) (.slice p l c)
        obtain ⟨F0, F1, F2, F3, -, -, -, -⟩ := HF
        clear BAD hB4 hy4 hRc
        go_wp2_with fail
        exact bodyPost_ret (v := .tuple #[.agg #[.bool d, .int .i64 s, .int .i64 a, .slice p l c], .int .i64 0]) (by simp [results, Try.results13, go_sem, r0, r1, r2, r3]) rfl ⟨_, _, _, _, _, _, _, _, rfl, k1, HD.out, ⟨HPN.out, fun ad e h0 => ⟨HYF.out ad e h0, HI5 ad e h0⟩⟩, hBB⟩
theorem dec_ok10 : DecOk10 := fun b lb cb L w h _ hlen => f10dec_any b lb cb L w h hlen
end Go.Proofs.Ytpoipobmkfphcaa
