/-
  Stage 11's laws: the walk of LinkArrives.
-/
import Derived.Test.YtjokbikelklaiaaP11Arrives
import Derived.Test.YtjokbikelklaiaaP10LawsO
namespace Go.Proofs.Ytjokbikelklaiaa
open Go.RowKit

set_option maxRecDepth 20000 in
set_option maxHeartbeats 25600000 in
theorem arrives11_walk {At : World → Nat → LS → (Nat → Prop) → Prop} (A : EndOk11 At) (n : Int) (a1 : Option Addr) (len1 cap1 : Nat) (w : World) (hn : -9223372036854775808 ≤ n ∧ n < 9223372036854775808) (HD : Steps11 w a1 len1) :
    Calls Try.prog 6 #[.int .i64 n, .slice a1 len1 cap1] w fun e w' => e = .returned (.bool true) ∧ Below w.heap.size w w' := by
  have HS : Hid (Steps11 w a1 len1) := HD
  have kc := fun (w : World) (C : Array Value) (n c : Nat) => Lib.run_convert_bytes_const (P := Try.prog) w 31 5 C n c Try.underlying31 Try.underlying5
  clear HD
  go_enter Try.func6, Try.ntmps6
  go_wp2_with fail
  refine (fresh11_any A n w hn).mono ?_
  rintro e w1 h1
  rcases h1 with ⟨hb, rfl, k1⟩ | ⟨hb, v, rfl, hT⟩
  · have hc : n < 1 ∨ (¬ n < 1 ∧ 16 < n) := by
      unfold winB at hb
      simp at hb
      omega
    rcases hc with c | ⟨c, c2⟩
    · have cd : decide (n < 1) = true := decide_eq_true c
      go_wp2
      go_ret
      exact ⟨rfl, k1⟩
    · have cd : decide (n < 1) = false := decide_eq_false c
      have cd2 : decide (16 < n) = true := decide_eq_true c2
      go_wp2
      go_ret
      exact ⟨rfl, k1⟩
  have hw : 1 ≤ n.toNat ∧ n.toNat ≤ 16 := by
    unfold winB at hb
    simp at hb
    omega
  have HC0 : Hid (Calls Try.prog 25 #[.pointer (some ⟨v, 0, none⟩), .int .i64 0, .slice (some ⟨w1.heap.size, 0, none⟩) 1 1] (w1.alloc (.cells #[.int .u8 120] 5 (1, 2))) fun e w' => e = .returned (.tuple #[]) ∧ Hid (∃ s ou, T11 At w v s ou (.slice none 0 0) [] w' ∧ BothF s ou ∧ (∀ k, k < 2 → (s k).took.length ≤ 1 ∧ (ou k).length ≤ 0) ∧ ∀ k, k < 2 → (s k).took.length ≤ (s k).sure + 64)) := by
    obtain ⟨g, T, u, rows, hJ⟩ := hT
    have hold : ∀ b, T 0 b → b < w1.heap.size := fun b e => (hJ.mem.old A.toEndKept11 0 b (part_end (by decide) e)).1
    have n1 := Byts.litM w1 [120] (fun x hx => by simp at hx; omega) 1 rfl (by decide) #[.int .u8 120] rfl (1, 2)
    have hJ2 := hJ.grow A.toEndKept11 (balloc w1 (.cells #[.int .u8 120] 5 (1, 2)))
    have hB0 : BothF (fun _ => LS.new n.toNat) (fun _ => []) := Both.new hw
    refine (send11_at A v 0 (fun _ => LS.new n.toNat) (fun _ => []) (.slice none 0 0) [] w _ (by decide) g T u rows hJ2 (some ⟨w1.heap.size, 0, none⟩) 1 1 [120] (fun wx o => ?_) (fun e => by cases e) (by decide) (by show 0 ≤ _; omega)).mono ?_
    · refine ⟨n1.hlen, n1.hcap, n1.hmax, fun hp => ?_, n1.word⟩
      obtain ⟨b, off, e, hc⟩ := n1.cells hp
      cases e
      exact ⟨_, _, rfl, fun i hi => o.cell (hc i hi) (fun q => by have := hold _ q; simp at this)⟩
    · rintro e w' ⟨rfl, h2⟩
      refine ⟨rfl, _, _, h2, hB0.send (by decide) _, fun k hk => ?_, fun k hk => ?_⟩
      · rcases two_ways hk with rfl | rfl
        · exact ⟨LS.send_took (LS.new n.toNat) [120], Nat.le_refl _⟩
        · exact ⟨Nat.zero_le _, Nat.le_refl _⟩
      · rcases two_ways hk with rfl | rfl
        · exact LS.send_queue (LS.new n.toNat) [120] (Nat.zero_le _)
        · exact Nat.zero_le _
  clear hT hb hw
  go_wp2_with fail
  refine Calls.mono HC0.out ?_
  rintro e w2 ⟨rfl, HT⟩
  clear HC0 kc
  go_upto_block 0 with fail
  go_cut [7] (fun _ wx => Hid (∃ s ou, T11 At w v s ou (.slice none 0 0) [] wx ∧ BothF s ou ∧ (∀ k, k < 2 → (s k).took.length ≤ 301 ∧ (ou k).length ≤ 30000) ∧ ∀ k, k < 2 → (s k).took.length ≤ (s k).sure + 64))
  case first =>
    go_wp2_with fail
    go_loopw [7] (fun v7 wr => ∃ i : Nat, v7 = .int .i64 i ∧ i ≤ len1 ∧ i ≤ 300 ∧ Hid (∃ s ou, T11 At w v s ou (.slice none 0 0) [] wr ∧ BothF s ou ∧ (∀ k, k < 2 → (s k).took.length ≤ i + 1 ∧ (ou k).length ≤ 100 * i) ∧ ∀ k, k < 2 → (s k).took.length ≤ (s k).sure + 64)) (fun v7 _ => 300 - (intOf v7).toNat)
    case atStart => exact ⟨0, rfl, Nat.zero_le _, by omega, HT⟩
    case round =>
      clear HT
      obtain ⟨i, rfl, hi, hi2, HR⟩ := hrel
      by_cases hlt : i < len1
      · have hlti : (i : Int) < (len1 : Int) := by omega
        by_cases hlt2 : i < 300
        · have hlt2i : (i : Int) < 300 := by omega
          obtain ⟨d, t, m, p, l, c, bs, ⟨b, off, rfl, c0, c1, c2, c3⟩, hby, hnil, hlen⟩ := HS.out i hlt
          obtain ⟨s, ou, hT, hB, hc, hqu⟩ := HR.out
          have hbw := hT.below
          replace c0 := bkeep hbw c0 rfl
          replace c1 := bkeep hbw c1 rfl
          replace c2 := bkeep hbw c2 rfl
          replace c3 := bkeep hbw c3 rfl
          have HC := (show Hid _ from play11_any A v s ou w wr hT hB d t m p l c bs (fun wx hb => hby.below hb) hnil hlen (fun k hk => by have := hc k hk; exact ⟨by omega, by omega⟩))
          have HCc : Hid ((∀ k, k < 2 → (s k).took.length ≤ i + 1 ∧ (ou k).length ≤ 100 * i) ∧ ∀ k, k < 2 → (s k).took.length ≤ (s k).sure + 64) := ⟨hc, hqu⟩
          clear hT hB hc hqu hbw hby HR
          go_wp2_with fail
          refine Calls.mono HC.out ?_
          rintro e w3 ⟨rfl, s', ou', h2, hB2, hc2, hq2⟩
          have HF : Hid (∃ s ou, T11 At w v s ou (.slice none 0 0) [] w3 ∧ BothF s ou ∧ (∀ k, k < 2 → (s k).took.length ≤ (i + 1) + 1 ∧ (ou k).length ≤ 100 * (i + 1)) ∧ ∀ k, k < 2 → (s k).took.length ≤ (s k).sure + 64) := ⟨_, _, h2, hB2, fun k hk => by
            have := hc2 k hk
            have := HCc.out.1 k hk
            exact ⟨by omega, by omega⟩, hq2 HCc.out.2⟩
          clear HC h2 hB2 hc2 hq2 HCc c0 c1 c2 c3
          go_wp2
          go_roundw
          case rel => exact ⟨i + 1, by go_num, by omega, by omega, HF⟩
          case measure => simp [intOf]; omega
        · obtain rfl : i = 300 := by omega
          obtain ⟨s, ou, hT, hB, hc, hqu⟩ := HR.out
          have HF : Hid (∃ s ou, T11 At w v s ou (.slice none 0 0) [] wr ∧ BothF s ou ∧ (∀ k, k < 2 → (s k).took.length ≤ 301 ∧ (ou k).length ≤ 30000) ∧ ∀ k, k < 2 → (s k).took.length ≤ (s k).sure + 64) := ⟨s, ou, hT, hB, fun k hk => by have := hc k hk; exact ⟨by omega, by omega⟩, hqu⟩
          clear hT hB hc hqu HR
          go_wp2
          go_meet
          case rel => exact HF
      · have hlti : decide ((i : Int) < (len1 : Int)) = false := decide_eq_false (by omega)
        have hltn : decide (i < len1) = false := decide_eq_false hlt
        obtain ⟨s, ou, hT, hB, hc, hqu⟩ := HR.out
        have HF : Hid (∃ s ou, T11 At w v s ou (.slice none 0 0) [] wr ∧ BothF s ou ∧ (∀ k, k < 2 → (s k).took.length ≤ 301 ∧ (ou k).length ≤ 30000) ∧ ∀ k, k < 2 → (s k).took.length ≤ (s k).sure + 64) := ⟨s, ou, hT, hB, fun k hk => by have := hc k hk; exact ⟨by omega, by omega⟩, hqu⟩
        clear hT hB hc hqu HR
        go_wp2
        go_meet
        case rel => exact HF
  case rest =>
    obtain ⟨S, ou0, hT, hB, hc, hqu⟩ := hcut.out
    have HT0 : Hid (T11 At w v S ou0 (.slice none 0 0) [] wc ∧ BothF S ou0 ∧ (∀ k, k < 2 → (S k).took.length ≤ 301 ∧ (ou0 k).length ≤ 30000) ∧ ∀ k, k < 2 → (S k).took.length ≤ (S k).sure + 64) := ⟨hT, hB, hc, hqu⟩
    clear HT hT hB hc hqu hcut
    obtain ⟨d0, hd0⟩ : ∃ d0, d0 = (S 0).took.length - (S 0).sure := ⟨_, rfl⟩
    obtain ⟨d1, hd1⟩ : ∃ d1, d1 = (S 1).took.length - (S 1).sure := ⟨_, rfl⟩
    obtain ⟨R, hR⟩ : ∃ R, R = max d0 d1 + 2 := ⟨_, rfl⟩
    have hR66 : R ≤ 66 := by
      have h0 := HT0.out.2.2.2 0 (by decide)
      have h1 := HT0.out.2.2.2 1 (by decide)
      omega
    have HRR : Hid (max ((S 0).took.length - (S 0).sure) ((S 1).took.length - (S 1).sure) + 2 ≤ R) := by show _ ≤ _; rw [← hd0, ← hd1, hR]; exact Nat.le_refl _
    go_upto_region 9 with fail
    go_cut [8] (fun v8 wx => v8 = .int .i64 R ∧ ∃ m, wx = wc.drewN m)
    case first =>
      obtain ⟨g, T, u, rows, hJ⟩ := HT0.out.1
      have hends : ∀ j k, k < 2 → At (wc.drewN j) (g k) (S k) (T k) := fun j k hk => A.below (hJ.mem.ends k hk) ⟨rfl, rfl, rfl, Nat.le_refl _, fun _ _ => rfl⟩
      have r0 := hJ.mem.row 0 (by decide)
      have r1 := hJ.mem.row 1 (by decide)
      rw [(hJ.links 0 (by decide)).1] at r0
      rw [(hJ.links 1 (by decide)).1] at r1
      obtain ⟨aa, ca, ea, -, la1, la2⟩ := r0.slice
      obtain ⟨ab, cb, eb, -, lb1, lb2⟩ := r1.slice
      have f0 := (A.foot (hJ.mem.ends 0 (by decide))).1
      have f1 := (A.foot (hJ.mem.ends 1 (by decide))).1
      have s00 := f0.sure
      have s01 := f0.sent
      have s10 := f1.sure
      have s11 := f1.sent
      have HSu : ∀ j k, k < 2 → Hid (Calls Try.prog 20 #[.pointer (some ⟨g k, 0, none⟩)] (wc.drewN j) fun e w' => e = .returned (.int .i64 ((S k).sure : Int)) ∧ ∃ m, w' = (wc.drewN j).drewN m) := fun j k hk => A.sure (g k) (S k) (T k) _ (hends j k hk)
      have HS0 := fun j => HSu j 0 (by decide)
      have HS1 := fun j => HSu j 1 (by decide)
      have c0 : wc.cell? ⟨v, 0, none⟩ = some (.pointer (some ⟨g 0, 0, none⟩)) := by rw [cell_of_row wc v 0 _ _ _ hJ.mem.heap]; exact cells11_end g u (by decide)
      have c1 : wc.cell? ⟨v, 1, none⟩ = some (.pointer (some ⟨g 1, 0, none⟩)) := by rw [cell_of_row wc v 1 _ _ _ hJ.mem.heap]; exact cells11_end g u (by decide)
      have c2 : wc.cell? ⟨v, 2, none⟩ = some (u 0) := by rw [cell_of_row wc v 2 _ _ _ hJ.mem.heap]; exact cells11_row g u (j := 0) (by decide)
      have c3 : wc.cell? ⟨v, 3, none⟩ = some (u 1) := by rw [cell_of_row wc v 3 _ _ _ hJ.mem.heap]; exact cells11_row g u (j := 1) (by decide)
      rw [ea] at c2
      rw [eb] at c3
      obtain ⟨g0, hg0⟩ : ∃ g0, g0 = g 0 := ⟨_, rfl⟩
      obtain ⟨g1, hg1⟩ : ∃ g1, g1 = g 1 := ⟨_, rfl⟩
      obtain ⟨n0, hn0⟩ : ∃ n0, n0 = (S 0).took.length := ⟨_, rfl⟩
      obtain ⟨n1, hn1⟩ : ∃ n1, n1 = (S 1).took.length := ⟨_, rfl⟩
      obtain ⟨u0, hu0⟩ : ∃ u0, u0 = (S 0).sure := ⟨_, rfl⟩
      obtain ⟨u1, hu1⟩ : ∃ u1, u1 = (S 1).sure := ⟨_, rfl⟩
      rw [← hg0] at HS0 c0
      rw [← hg1] at HS1 c1
      rw [← hn0] at c2 la1 hd0 s01
      rw [← hn1] at c3 lb1 hd1 s11
      rw [← hu0] at HS0 hd0 s00
      rw [← hu1] at HS1 hd1 s10
      have z0 : (n0 : Int) - (u0 : Int) = (d0 : Int) := by omega
      have z1 : (n1 : Int) - (u1 : Int) = (d1 : Int) := by omega
      have hbn := HT0.out.2.2.1 0 (by decide)
      have hbm := HT0.out.2.2.1 1 (by decide)
      rw [← hn0] at hbn
      rw [← hn1] at hbm
      unfold maxLen at la2 lb2
      have hRi : ∀ x y : Int, x = (d0 : Int) → y = (d1 : Int) → (R : Int) = max x y + 2 := fun x y h1 h2 => by rw [h1, h2, hR]; omega
      have HRi : Hid ((R : Int) = max (d0 : Int) (d1 : Int) + 2) := by show _ = _; rw [hR]; omega
      clear hJ hends r0 r1 ea eb f0 f1 hg0 hg1 hn0 hn1 hu0 hu1 HSu HT0 hd0 hd1 HRR hR hRi
      go_quiet ((go_at_call 20; first | exact Calls.quiet_of (HS0 _).out | exact Calls.quiet_of (HS1 _).out))
      go_wp2
      go_meet
      case rel => exact ⟨by rw [HRi.out], _, rfl⟩
    case rest =>
      obtain ⟨rfl, m9, rfl⟩ := hcut
      have HT1 : Hid (T11 At w v S ou0 (.slice none 0 0) [] (wc.drewN m9) ∧ BothF S ou0 ∧ ∀ k, k < 2 → (S k).took.length ≤ 301 ∧ (ou0 k).length ≤ 30000) := ⟨HT0.out.1.grow A.toEndKept11 ⟨rfl, rfl, rfl, Nat.le_refl _, fun _ _ => rfl⟩, HT0.out.2.1, HT0.out.2.2.1⟩
      generalize hW9 : World.drewN wc m9 = W9 at HT1 ⊢
      clear hW9 HT0 hd0 hd1 hR
      go_wp2_with fail
      go_loopw [9] (fun v9 wr => ∃ rn : Nat, v9 = .int .i64 rn ∧ rn ≤ R ∧ Hid (∃ z ou, (∀ r, r < 2 → z r = rounds11 S rn r) ∧ T11 At w v z ou (.slice none 0 0) [] wr ∧ BothF z ou ∧ ∀ r, r < 2 → (z r).took.length ≤ 301 ∧ (ou r).length ≤ 31000 + 200 * rn)) (fun v9 _ => R - (intOf v9).toNat)
      case atStart => exact ⟨0, rfl, Nat.zero_le _, ⟨S, ou0, fun r hr => (rounds11_zero hr).symm, HT1.out.1, HT1.out.2.1, fun r hr => by have := HT1.out.2.2 r hr; exact ⟨by omega, by omega⟩⟩⟩
      case round =>
        have HB0 : Hid (BothF S ou0) := HT1.out.2.1
        clear HT1
        obtain ⟨rn, rfl, hrn, HR2⟩ := hrel
        by_cases hlt : rn < R
        · have hlti : (rn : Int) < (R : Int) := by omega
          have hl100 : (rn : Int) < 100 := by omega
          obtain ⟨z, ou, hz, hT, hB, hc⟩ := HR2.out
          obtain ⟨g, T, u, rows, hJ⟩ := hT
          have c0 : wr.cell? ⟨v, 0, none⟩ = some (.pointer (some ⟨g 0, 0, none⟩)) := by rw [cell_of_row wr v 0 _ _ _ hJ.mem.heap]; exact cells11_end g u (by decide)
          obtain ⟨g0, hg0⟩ : ∃ g0, g0 = g 0 := ⟨_, rfl⟩
          have HC := (show Hid _ from A.tick (g 0) (z 0) (T 0) wr (hJ.mem.ends 0 (by decide)))
          rw [← hg0] at c0 HC
          have HZ : Hid ((∀ r, r < 2 → z r = rounds11 S rn r) ∧ J11 At w v z ou (.slice none 0 0) [] g T u rows wr ∧ BothF z ou ∧ (∀ r, r < 2 → (z r).took.length ≤ 301 ∧ (ou r).length ≤ 31000 + 200 * rn) ∧ g0 = g 0) := ⟨hz, hJ, hB, hc, hg0⟩
          clear hz hJ hB hc hg0 HR2
          go_wp2_with fail
          refine Calls.mono HC.out ?_
          rintro e w3 ⟨rfl, T', hE⟩
          rw [HZ.out.2.2.2.2] at hE
          obtain ⟨g2, T2, u2, rows2, hJ2⟩ := HZ.out.2.1.ticked A.toEndKept11 (k := 0) (by decide) hE
          have c1 : w3.cell? ⟨v, 1, none⟩ = some (.pointer (some ⟨g2 1, 0, none⟩)) := by rw [cell_of_row w3 v 1 _ _ _ hJ2.mem.heap]; exact cells11_end g2 u2 (by decide)
          obtain ⟨g1, hg1⟩ : ∃ g1, g1 = g2 1 := ⟨_, rfl⟩
          have HC2 := (show Hid _ from A.tick (g2 1) (put z 0 (z 0).ticked 1) (T2 1) w3 (hJ2.mem.ends 1 (by decide)))
          rw [← hg1] at c1 HC2
          have HJ2 : Hid (J11 At w v (put z 0 (z 0).ticked) ou (.slice none 0 0) [] g2 T2 u2 rows2 w3 ∧ g1 = g2 1) := ⟨hJ2, hg1⟩
          clear hJ2 hg1 hE HC c0
          go_wp2_with fail
          refine Calls.mono HC2.out ?_
          rintro e w4 ⟨rfl, T3, hE2⟩
          rw [HJ2.out.2] at hE2
          have hT3 := (HJ2.out.1.ticked A.toEndKept11 (k := 1) (by decide) hE2).ext (s' := ticks11 z) (fun r hr => by rcases two_ways hr with rfl | rfl <;> rfl)
          have HT3 : Hid (T11 At w v (ticks11 z) ou (.slice none 0 0) [] w4 ∧ BothF (ticks11 z) ou ∧ (∀ r, r < 2 → (ticks11 z r).took.length ≤ 301 ∧ (ou r).length ≤ 31000 + 200 * rn) ∧ ∀ r, r < 2 → z r = rounds11 S rn r) := ⟨hT3, (HZ.out.2.2.1.tick (k := 0) (by decide)).tick (k := 1) (by decide), HZ.out.2.2.2.1, HZ.out.1⟩
          clear hT3 HZ HJ2 HC2 hE2 c1
          go_wp2_with fail
          go_loopw [10] (fun v10 wr => ∃ k : Nat, v10 = .int .i64 k ∧ k ≤ 2 ∧ Hid (∃ q ou, q = halves11 (ticks11 z) k ∧ T11 At w v q ou (.slice none 0 0) [] wr ∧ BothF q ou ∧ ∀ r, r < 2 → (q r).took.length ≤ 301 ∧ (ou r).length ≤ 31000 + 200 * rn + 100 * k)) (fun v10 _ => 2 - (intOf v10).toNat)
          case atStart => exact ⟨0, rfl, by omega, ⟨_, ou, rfl, HT3.out.1, HT3.out.2.1, HT3.out.2.2.1⟩⟩
          case round =>
            have HZr : Hid (∀ r, r < 2 → z r = rounds11 S rn r) := HT3.out.2.2.2
            clear HT3
            obtain ⟨k, rfl, hk2, HR3⟩ := hrel
            obtain rfl | rfl | rfl : k = 0 ∨ k = 1 ∨ k = 2 := by omega
            · obtain ⟨q, ou, hq0, hq, hqb, hqc⟩ := HR3.out
              have HE : Hid (q = halves11 (ticks11 z) 0) := hq0
              clear hq0
              have HFl := (show Hid _ from flush11_any A v 0 q ou (.slice none 0 0) [] w wr (by decide) hq (by have := (hqc 0 (by decide)).2; omega))
              have HQ : Hid (BothF q ou ∧ (∀ i, i < 2 → (q i).took.length ≤ 301 ∧ (ou i).length ≤ 31000 + 200 * rn + 100 * 0) ∧ (q 0).Fine) := ⟨hqb, hqc, hq.ends A.toEndKept11 (by decide)⟩
              clear hq hqb hqc HR3
              go_wp2_with fail
              refine Calls.mono HFl.out ?_
              rintro e w2 ⟨x', ys', rfl, hfr, h2⟩
              obtain ⟨fs, hfs⟩ : ∃ fs, fs = (q 0).outF := ⟨_, rfl⟩
              obtain ⟨q1, hq1⟩ : ∃ q1, q1 = put q 0 (q 0).out := ⟨_, rfl⟩
              obtain ⟨ou1, hou1⟩ : ∃ ou1, ou1 = put ou 0 (ou 0 ++ (q 0).outF) := ⟨_, rfl⟩
              rw [← hq1, ← hou1] at h2
              have hlf : fs.length ≤ 100 := by rw [hfs]; exact LS.outF_len _ HQ.out.2.2
              have hb1 : BothF q1 ou1 := by rw [hq1, hou1]; exact HQ.out.1.out (by decide)
              have hc1 : ∀ i, i < 2 → (q1 i).took.length ≤ 301 ∧ (ou1 i).length ≤ 31000 + 200 * rn + 100 * 1 := fun i hi => by
                have h3 := HQ.out.2.1 i hi
                rw [hq1, hou1]
                by_cases c : i = 0
                · subst c
                  rw [put_same, put_same]
                  refine ⟨h3.1, ?_⟩
                  rw [List.length_append, ← hfs]
                  omega
                · rw [put_other _ _ c, put_other _ _ c]
                  exact ⟨h3.1, by omega⟩
              have hin1 : ∀ f, f ∈ fs → f ∈ ou1 0 := fun f hf => by
                rw [hou1, put_same, ← hfs]
                exact List.mem_append.2 (.inr hf)
              have hrowx : ∃ ax cx, x' = .slice ax fs.length cx := by
                obtain ⟨g, T, u, rows, hJ⟩ := h2
                obtain ⟨a, c, e, -, -, -⟩ := hJ.beside.slice
                rw [hfr.1, ← hfs] at e
                exact ⟨a, c, e⟩
              obtain ⟨ax, cx, rfl⟩ := hrowx
              obtain ⟨nf, hnf⟩ : ∃ nf, nf = fs.length := ⟨_, rfl⟩
              rw [← hnf] at h2 hlf
              have hcx : nf ≤ cx ∧ cx ≤ 9223372036854775807 := by
                obtain ⟨g, T, u, rows, hJ⟩ := h2
                obtain ⟨a, c, e, -, l1, l2⟩ := hJ.beside.slice
                injection e with e1 e2 e3
                unfold maxLen at l2
                omega
              have HX : Hid (IsFrs fs ys' ∧ BothF q1 ou1 ∧ (∀ i, i < 2 → (q1 i).took.length ≤ 301 ∧ (ou1 i).length ≤ 31000 + 200 * rn + 100 * 1) ∧ (∀ f, f ∈ fs → f ∈ ou1 0) ∧ nf = fs.length ∧ came11 q1 1 fs fs.length = half11 q 0) := ⟨by rw [hfs]; exact hfr, hb1, hc1, hin1, hnf, by rw [hq1, hfs]; exact half11_all q 0⟩
              have H2 : Hid (T11 At w v (came11 q1 1 fs 0) ou1 (.slice ax nf cx) ys' w2) := by
                show T11 _ _ _ _ _ _ _ _
                rw [came11_zero]
                exact h2
              clear HFl h2 hfr hb1 hc1 hin1 hq1 hou1 hfs hnf
              rw [← HX.out.2.2.2.2.1]
              go_wp2
              go_loopw [12] (fun v12 wr => ∃ j : Nat, v12 = .int .i64 j ∧ j ≤ nf ∧ Hid (T11 At w v (came11 q1 1 fs j) ou1 (.slice ax nf cx) ys' wr)) (fun v12 _ => nf - (intOf v12).toNat)
              case atStart => exact ⟨0, rfl, Nat.zero_le _, H2⟩
              case round =>
                clear H2
                obtain ⟨j, rfl, hj, HR4⟩ := hrel
                by_cases hjl : j < nf
                · have hjli : (j : Int) < (nf : Int) := by omega
                  have hj0 : (0 : Int) ≤ (j : Int) := by omega
                  have hjf : j < fs.length := by rw [← HX.out.2.2.2.2.1]; exact hjl
                  obtain ⟨g, T, u, rows, hJ⟩ := HR4.out
                  obtain ⟨gq, cq, p, pl, pc, x1, x2, x3⟩ := hJ.beside.at (i := j) (by rw [HX.out.1.1]; exact hjf)
                  obtain ⟨rfl, rfl⟩ : ax = some ⟨gq, 0, none⟩ ∧ cx = cq := by injection x1 with r1 r2 r3; exact ⟨r1, r3⟩
                  obtain ⟨gk, hgk⟩ : ∃ gk, gk = g 1 := ⟨_, rfl⟩
                  have ck : wr.cell? ⟨v, 1, none⟩ = some (.pointer (some ⟨gk, 0, none⟩)) := by rw [cell_of_row wr v 1 _ _ _ hJ.mem.heap, hgk]; exact cells11_end g u (by decide)
                  have hfr := HX.out.1.2 j hjf
                  have hbJ : BothF (came11 q1 1 fs j) ou1 := came11_both HX.out.2.1 (k := 1) (by decide) HX.out.2.2.2.1 j (by omega)
                  have hal : (came11 q1 1 fs j 1).all.length ≤ 301 := A11.all hbJ (fun i hi => by
                    unfold came11
                    by_cases c : i = 1
                    · subst c
                      rw [put_same, comes_took]
                      exact (HX.out.2.2.1 1 (by decide)).1
                    · rw [put_other _ _ c]
                      exact (HX.out.2.2.1 i hi).1) (by decide)
                  have hpl : pl ≤ 140737488355300 := by
                    have h1 := x3.byts.hlen
                    obtain ⟨m, hm, e⟩ := hfr.2
                    have h3 := (hm.len hfr.1).1
                    have h4 := ((rightFr_iff _ _ _ _).1 hfr.1).2.2.2.2.1
                    have h5 : (ys'.getD j []).length = m.length + 4 := by rw [e]; simp [be4]
                    omega
                  have HIn : Hid (∀ wx : World, wx.heap = wr.heap → wx.os = wr.os → wx.tape = wr.tape → wx.output = wr.output → Calls Try.prog 16 #[.pointer (some ⟨gk, 0, none⟩), .slice p pl pc] wx fun e w' => (∃ z, e = .returned (.int .i64 z)) ∧ Hid (T11 At w v (came11 q1 1 fs (j + 1)) ou1 (.slice (some ⟨gq, 0, none⟩) nf cx) ys' w')) := fun wx y1 y2 y3 y4 => by
                    have hbj : Below wr.heap.size wr wx := ⟨y2, y3, y4, by rw [y1]; exact Nat.le_refl _, fun _ _ => by rw [y1]⟩
                    have hJj := hJ.grow A.toEndKept11 hbj
                    have := A.inn (g 1) _ (T 1) p pl pc (ys'.getD j []) wx (hJj.mem.ends 1 (by decide)) (x3.below hbj).byts x3.nil hpl (by omega)
                    rw [hgk]
                    refine this.mono ?_
                    intro e w' hI
                    obtain ⟨he, T', h1⟩ := T11.came A.toEndKept11 (k := 1) (by decide) hJj hfr hI
                    rw [came11_next q1 1 fs j hjf] at h1
                    exact ⟨⟨_, he⟩, ⟨g, _, u, rows, h1⟩⟩
                  clear HR4 hJ x1 x3 hgk hfr hbJ hal hpl
                  go_wp2_with fail
                  go_region_with (first
                    | (go_at_call 16; with_reducible refine Calls.mono (HIn.out _ rfl rfl rfl rfl) ?_; rintro e w3 ⟨⟨z, rfl⟩, hZ⟩))
                  all_goals
                    clear HIn
                    go_wp2
                    go_roundw
                    case rel => exact ⟨j + 1, by go_num, by omega, hZ⟩
                    case measure => simp [intOf]; omega
                · obtain rfl : j = nf := by omega
                  have HF : Hid (T11 At w v (half11 q 0) ou1 (.slice none 0 0) [] wr ∧ BothF (half11 q 0) ou1 ∧ ∀ i, i < 2 → (half11 q 0 i).took.length ≤ 301 ∧ (ou1 i).length ≤ 31000 + 200 * rn + 100 * 1) := by
                    have e := HX.out.2.2.2.2.2
                    have hT := HR4.out
                    have hbJ : BothF (came11 q1 1 fs fs.length) ou1 := came11_both HX.out.2.1 (k := 1) (by decide) HX.out.2.2.2.1 _ (Nat.le_refl _)
                    rw [HX.out.2.2.2.2.1] at hT
                    rw [e] at hT hbJ
                    exact ⟨hT.alone, hbJ, fun i hi => ⟨by rw [half11_took q (by decide) hi]; exact (HQ.out.2.1 i hi).1, (HX.out.2.2.1 i hi).2⟩⟩
                  clear HR4 HX HQ
                  go_wp2
                  go_roundw
                  case rel => exact ⟨1, by rfl, by omega, ⟨_, ou1, by rw [HE.out]; rfl, HF.out.1, HF.out.2.1, HF.out.2.2⟩⟩
                  case measure => simp [intOf]
            · obtain ⟨q, ou, hq0, hq, hqb, hqc⟩ := HR3.out
              have HE : Hid (q = halves11 (ticks11 z) 1) := hq0
              clear hq0
              have HFl := (show Hid _ from flush11_any A v 1 q ou (.slice none 0 0) [] w wr (by decide) hq (by have := (hqc 1 (by decide)).2; omega))
              have HQ : Hid (BothF q ou ∧ (∀ i, i < 2 → (q i).took.length ≤ 301 ∧ (ou i).length ≤ 31000 + 200 * rn + 100 * 1) ∧ (q 1).Fine) := ⟨hqb, hqc, hq.ends A.toEndKept11 (by decide)⟩
              clear hq hqb hqc HR3
              go_wp2_with fail
              refine Calls.mono HFl.out ?_
              rintro e w2 ⟨x', ys', rfl, hfr, h2⟩
              obtain ⟨fs, hfs⟩ : ∃ fs, fs = (q 1).outF := ⟨_, rfl⟩
              obtain ⟨q1, hq1⟩ : ∃ q1, q1 = put q 1 (q 1).out := ⟨_, rfl⟩
              obtain ⟨ou1, hou1⟩ : ∃ ou1, ou1 = put ou 1 (ou 1 ++ (q 1).outF) := ⟨_, rfl⟩
              rw [← hq1, ← hou1] at h2
              have hlf : fs.length ≤ 100 := by rw [hfs]; exact LS.outF_len _ HQ.out.2.2
              have hb1 : BothF q1 ou1 := by rw [hq1, hou1]; exact HQ.out.1.out (by decide)
              have hc1 : ∀ i, i < 2 → (q1 i).took.length ≤ 301 ∧ (ou1 i).length ≤ 31000 + 200 * rn + 100 * 2 := fun i hi => by
                have h3 := HQ.out.2.1 i hi
                rw [hq1, hou1]
                by_cases c : i = 1
                · subst c
                  rw [put_same, put_same]
                  refine ⟨h3.1, ?_⟩
                  rw [List.length_append, ← hfs]
                  omega
                · rw [put_other _ _ c, put_other _ _ c]
                  exact ⟨h3.1, by omega⟩
              have hin1 : ∀ f, f ∈ fs → f ∈ ou1 1 := fun f hf => by
                rw [hou1, put_same, ← hfs]
                exact List.mem_append.2 (.inr hf)
              have hrowx : ∃ ax cx, x' = .slice ax fs.length cx := by
                obtain ⟨g, T, u, rows, hJ⟩ := h2
                obtain ⟨a, c, e, -, -, -⟩ := hJ.beside.slice
                rw [hfr.1, ← hfs] at e
                exact ⟨a, c, e⟩
              obtain ⟨ax, cx, rfl⟩ := hrowx
              obtain ⟨nf, hnf⟩ : ∃ nf, nf = fs.length := ⟨_, rfl⟩
              rw [← hnf] at h2 hlf
              have hcx : nf ≤ cx ∧ cx ≤ 9223372036854775807 := by
                obtain ⟨g, T, u, rows, hJ⟩ := h2
                obtain ⟨a, c, e, -, l1, l2⟩ := hJ.beside.slice
                injection e with e1 e2 e3
                unfold maxLen at l2
                omega
              have HX : Hid (IsFrs fs ys' ∧ BothF q1 ou1 ∧ (∀ i, i < 2 → (q1 i).took.length ≤ 301 ∧ (ou1 i).length ≤ 31000 + 200 * rn + 100 * 2) ∧ (∀ f, f ∈ fs → f ∈ ou1 1) ∧ nf = fs.length ∧ came11 q1 0 fs fs.length = half11 q 1) := ⟨by rw [hfs]; exact hfr, hb1, hc1, hin1, hnf, by rw [hq1, hfs]; exact half11_all q 1⟩
              have H2 : Hid (T11 At w v (came11 q1 0 fs 0) ou1 (.slice ax nf cx) ys' w2) := by
                show T11 _ _ _ _ _ _ _ _
                rw [came11_zero]
                exact h2
              clear HFl h2 hfr hb1 hc1 hin1 hq1 hou1 hfs hnf
              rw [← HX.out.2.2.2.2.1]
              go_wp2
              go_loopw [12] (fun v12 wr => ∃ j : Nat, v12 = .int .i64 j ∧ j ≤ nf ∧ Hid (T11 At w v (came11 q1 0 fs j) ou1 (.slice ax nf cx) ys' wr)) (fun v12 _ => nf - (intOf v12).toNat)
              case atStart => exact ⟨0, rfl, Nat.zero_le _, H2⟩
              case round =>
                clear H2
                obtain ⟨j, rfl, hj, HR4⟩ := hrel
                by_cases hjl : j < nf
                · have hjli : (j : Int) < (nf : Int) := by omega
                  have hj0 : (0 : Int) ≤ (j : Int) := by omega
                  have hjf : j < fs.length := by rw [← HX.out.2.2.2.2.1]; exact hjl
                  obtain ⟨g, T, u, rows, hJ⟩ := HR4.out
                  obtain ⟨gq, cq, p, pl, pc, x1, x2, x3⟩ := hJ.beside.at (i := j) (by rw [HX.out.1.1]; exact hjf)
                  obtain ⟨rfl, rfl⟩ : ax = some ⟨gq, 0, none⟩ ∧ cx = cq := by injection x1 with r1 r2 r3; exact ⟨r1, r3⟩
                  obtain ⟨gk, hgk⟩ : ∃ gk, gk = g 0 := ⟨_, rfl⟩
                  have ck : wr.cell? ⟨v, 0, none⟩ = some (.pointer (some ⟨gk, 0, none⟩)) := by rw [cell_of_row wr v 0 _ _ _ hJ.mem.heap, hgk]; exact cells11_end g u (by decide)
                  have hfr := HX.out.1.2 j hjf
                  have hbJ : BothF (came11 q1 0 fs j) ou1 := came11_both HX.out.2.1 (k := 0) (by decide) HX.out.2.2.2.1 j (by omega)
                  have hal : (came11 q1 0 fs j 0).all.length ≤ 301 := A11.all hbJ (fun i hi => by
                    unfold came11
                    by_cases c : i = 0
                    · subst c
                      rw [put_same, comes_took]
                      exact (HX.out.2.2.1 0 (by decide)).1
                    · rw [put_other _ _ c]
                      exact (HX.out.2.2.1 i hi).1) (by decide)
                  have hpl : pl ≤ 140737488355300 := by
                    have h1 := x3.byts.hlen
                    obtain ⟨m, hm, e⟩ := hfr.2
                    have h3 := (hm.len hfr.1).1
                    have h4 := ((rightFr_iff _ _ _ _).1 hfr.1).2.2.2.2.1
                    have h5 : (ys'.getD j []).length = m.length + 4 := by rw [e]; simp [be4]
                    omega
                  have HIn : Hid (∀ wx : World, wx.heap = wr.heap → wx.os = wr.os → wx.tape = wr.tape → wx.output = wr.output → Calls Try.prog 16 #[.pointer (some ⟨gk, 0, none⟩), .slice p pl pc] wx fun e w' => (∃ z, e = .returned (.int .i64 z)) ∧ Hid (T11 At w v (came11 q1 0 fs (j + 1)) ou1 (.slice (some ⟨gq, 0, none⟩) nf cx) ys' w')) := fun wx y1 y2 y3 y4 => by
                    have hbj : Below wr.heap.size wr wx := ⟨y2, y3, y4, by rw [y1]; exact Nat.le_refl _, fun _ _ => by rw [y1]⟩
                    have hJj := hJ.grow A.toEndKept11 hbj
                    have := A.inn (g 0) _ (T 0) p pl pc (ys'.getD j []) wx (hJj.mem.ends 0 (by decide)) (x3.below hbj).byts x3.nil hpl (by omega)
                    rw [hgk]
                    refine this.mono ?_
                    intro e w' hI
                    obtain ⟨he, T', h1⟩ := T11.came A.toEndKept11 (k := 0) (by decide) hJj hfr hI
                    rw [came11_next q1 0 fs j hjf] at h1
                    exact ⟨⟨_, he⟩, ⟨g, _, u, rows, h1⟩⟩
                  clear HR4 hJ x1 x3 hgk hfr hbJ hal hpl
                  go_wp2_with fail
                  go_region_with (first
                    | (go_at_call 16; with_reducible refine Calls.mono (HIn.out _ rfl rfl rfl rfl) ?_; rintro e w3 ⟨⟨z, rfl⟩, hZ⟩))
                  all_goals
                    clear HIn
                    go_wp2
                    go_roundw
                    case rel => exact ⟨j + 1, by go_num, by omega, hZ⟩
                    case measure => simp [intOf]; omega
                · obtain rfl : j = nf := by omega
                  have HF : Hid (T11 At w v (half11 q 1) ou1 (.slice none 0 0) [] wr ∧ BothF (half11 q 1) ou1 ∧ ∀ i, i < 2 → (half11 q 1 i).took.length ≤ 301 ∧ (ou1 i).length ≤ 31000 + 200 * rn + 100 * 2) := by
                    have e := HX.out.2.2.2.2.2
                    have hT := HR4.out
                    have hbJ : BothF (came11 q1 0 fs fs.length) ou1 := came11_both HX.out.2.1 (k := 0) (by decide) HX.out.2.2.2.1 _ (Nat.le_refl _)
                    rw [HX.out.2.2.2.2.1] at hT
                    rw [e] at hT hbJ
                    exact ⟨hT.alone, hbJ, fun i hi => ⟨by rw [half11_took q (by decide) hi]; exact (HQ.out.2.1 i hi).1, (HX.out.2.2.1 i hi).2⟩⟩
                  clear HR4 HX HQ
                  go_wp2
                  go_roundw
                  case rel => exact ⟨2, by rfl, by omega, ⟨_, ou1, by rw [HE.out]; rfl, HF.out.1, HF.out.2.1, HF.out.2.2⟩⟩
                  case measure => simp [intOf]
            · obtain ⟨q, ou, hq0, hq, hqb, hqc⟩ := HR3.out
              have HF : Hid (∃ z ou, (∀ r, r < 2 → z r = rounds11 S (rn + 1) r) ∧ T11 At w v z ou (.slice none 0 0) [] wr ∧ BothF z ou ∧ ∀ r, r < 2 → (z r).took.length ≤ 301 ∧ (ou r).length ≤ 31000 + 200 * (rn + 1)) := ⟨q, ou, fun r hr => by
                rw [hq0]
                obtain ⟨h1, h2⟩ := halves11_round z
                obtain ⟨h3, h4⟩ := rounds11_next S rn
                have e0 := HZr.out 0 (by decide)
                have e1 := HZr.out 1 (by decide)
                rcases two_ways hr with rfl | rfl
                · rw [h1, h3, e0, e1]
                · rw [h2, h4, e0, e1], hq, hqb, fun r hr => by have := hqc r hr; exact ⟨by omega, by omega⟩⟩
              clear HR3 hq0 hq hqb hqc HZr
              go_wp2
              go_roundw
              case rel => exact ⟨rn + 1, by go_num, by omega, HF⟩
              case measure => simp [intOf]; omega
        · obtain rfl : rn = R := by omega
          have hlti : decide ((rn : Int) < (rn : Int)) = false := decide_eq_false (by omega)
          obtain ⟨z, ou, hz, hT, hB, hc⟩ := HR2.out
          have HC := (show Hid _ from begins11_any A v z ou w wr hT hB (fun k hk => by have := (hc k hk).1; omega))
          have HZ : Hid (∀ k, k < 2 → (z k).took.length = (S k).took.length ∧ (z k).sure = (S k).took.length ∧ (z (1 - k)).all.length = (S k).took.length) := fun k hk => by
            rw [hz k hk, hz (1 - k) (by omega)]
            exact rounds11_end HB0.out HRR.out hk
          have HTo : Hid (∀ k, k < 2 → (z k).took.length ≤ 301) := fun k hk => (hc k hk).1
          clear HR2 hz hT hB hc
          go_wp2_with fail
          refine Calls.mono HC.out ?_
          rintro e w3 ⟨rfl, h3⟩
          have HT3 : Hid (T11 At w v (toldUp z 2) ou (.slice none 0 0) [] w3) := h3
          clear HC h3
          go_wp2
          go_loopw [14] (fun v14 wr => ∃ k : Nat, v14 = .int .i64 k ∧ k ≤ 2 ∧ Hid (∃ m, wr = w3.drewN m)) (fun v14 _ => 2 - (intOf v14).toNat)
          case atStart => exact ⟨0, rfl, by omega, ⟨0, rfl⟩⟩
          case round =>
            obtain ⟨k, rfl, hk2, HR5⟩ := hrel
            have hT5 : T11 At w v (toldUp z 2) ou (.slice none 0 0) [] wr := by
              obtain ⟨m, e⟩ := HR5.out
              rw [e]
              exact HT3.out.grow A.toEndKept11 ⟨rfl, rfl, rfl, Nat.le_refl _, fun _ _ => rfl⟩
            by_cases hk : k < 2
            · have hki : (k : Int) < 2 := by omega
              have hk0 : (0 : Int) ≤ (k : Int) := by omega
              obtain ⟨o, ho⟩ : ∃ o, o = 1 - k := ⟨_, rfl⟩
              have hoi : (1 : Int) - (k : Int) = (o : Int) := by omega
              have ho2i : (o : Int) < 2 := by omega
              have ho0 : (0 : Int) ≤ (o : Int) := by omega
              have ho2 : o < 2 := by omega
              obtain ⟨y1, y2, y3⟩ := HZ.out k hk
              rw [← ho] at y3
              obtain ⟨tn, htn⟩ : ∃ tn, tn = (S k).took.length := ⟨_, rfl⟩
              obtain ⟨g, T, u, rows, hJ⟩ := hT5
              have ra := hJ.mem.row (2 + o) (by omega)
              have rb := hJ.mem.row k (by omega)
              have ea0 : (rows (2 + o)).length = tn := by
                rw [(hJ.links o ho2).2.1, show toldUp z 2 o = { z o with told := (z o).all.length } from if_pos ho2]
                show ((z o).all.take (z o).all.length).length = tn
                rw [List.take_length, y3, htn]
              have eb0 : (rows k).length = tn := by rw [(hJ.links k hk).1, (toldUp_same z 2 k).2.1, y1, htn]
              obtain ⟨aa, ca, ea, -, la1, la2⟩ := ra.slice
              obtain ⟨ab, cb, eb, -, lb1, lb2⟩ := rb.slice
              rw [ea0] at ea la1
              rw [eb0] at eb lb1
              have d4 : wr.cell? ⟨v, 4 + o, none⟩ = some (.slice aa tn ca) := by
                rw [cell_of_row wr v (4 + o) _ _ _ hJ.mem.heap, ← ea, show 4 + o = 2 + (2 + o) by omega]
                exact cells11_row g u (by omega)
              have d2 : wr.cell? ⟨v, 2 + k, none⟩ = some (.slice ab tn cb) := by
                rw [cell_of_row wr v (2 + k) _ _ _ hJ.mem.heap, ← eb]
                exact cells11_row g u (by omega)
              obtain ⟨gk, hgk⟩ : ∃ gk, gk = g k := ⟨_, rfl⟩
              have ck : wr.cell? ⟨v, k, none⟩ = some (.pointer (some ⟨gk, 0, none⟩)) := by rw [cell_of_row wr v k _ _ _ hJ.mem.heap, hgk]; exact cells11_end g u hk
              have HSu : ∀ j, Hid (Calls Try.prog 20 #[.pointer (some ⟨gk, 0, none⟩)] (wr.drewN j) fun e w' => e = .returned (.int .i64 (tn : Int)) ∧ ∃ m, w' = (wr.drewN j).drewN m) := fun j => by
                have := A.sure (g k) _ (T k) (wr.drewN j) (A.below (hJ.mem.ends k hk) ⟨rfl, rfl, rfl, Nat.le_refl _, fun _ _ => rfl⟩)
                rw [(toldUp_same z 2 k).2.2, y2, ← htn, ← hgk] at this
                exact this
              unfold maxLen at la2 lb2
              have hw5 : ∀ j, Hid (∃ m, wr.drewN j = w3.drewN m) := fun j => by
                obtain ⟨m, e⟩ := HR5.out
                exact ⟨m + j, by rw [e, World.drewN_drewN]⟩
              clear hJ ra rb ea0 eb0 ea eb hgk y1 y2 y3 ho htn HR5
              go_wp2_with fail
              go_quiet ((go_at_call 20; exact Calls.quiet_of (HSu _).out))
              go_wp2
              go_roundw
              case rel => exact ⟨k + 1, by go_num, by omega, hw5 _⟩
              case measure => simp [intOf]; omega
            · obtain rfl : k = 2 := by omega
              have hBB := hT5.below
              clear hT5 HR5
              go_wp2
              go_ret
              exact ⟨rfl, hBB⟩
end Go.Proofs.Ytjokbikelklaiaa
