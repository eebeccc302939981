/-
  The contract of the document's own division of two numbers.
  Contracts of the document's own moves of bits: by a power of 2, times or divided.
  Contracts of the document's own Shl and Shr.
-/
import Derived.Test.YtchmlfjjgehbkaaRefA
import Derived.Test.YtchmlfjjgehbkaaNatE
import Derived.Deep.DeepCutAuto
import Derived.Deep.CutBlock
import Derived.Test.YtchmlfjjgehbkaaShift
namespace Go.Proofs.Ytchmlfjjgehbkaa
open Go.RowKit

theorem rd_step {L M : List Int} {n k : Nat} {d r q r' : Int} (hk : k < n) (hml : M.length = n) 
    (hv : vs 65536 (fun t => L.getD (k + 1 + t) 0) (n - (k + 1)) = d * vs 65536 (fun t => M.getD (k + 1 + t) 0) (n - (k + 1)) + r) (e : L.getD k 0 + 65536 * r = q * d + r') :
    vs 65536 (fun t => L.getD (k + t) 0) (n - k) = d * vs 65536 (fun t => (M.set k q).getD (k + t) 0) (n - k) + r' := by
  obtain ⟨m, hm⟩ : ∃ m, n - k = m + 1 := ⟨n - k - 1, by omega⟩
  have hm' : n - (k + 1) = m := by omega
  rw [hm, vs_head, vs_head, Nat.add_zero, getD_set_self (by omega)]
  rw [hm'] at hv
  have e1 : vs 65536 (fun t => L.getD (k + (1 + t)) 0) m = vs 65536 (fun t => L.getD (k + 1 + t) 0) m := vs_congr (fun t _ => by rw [Nat.add_assoc])
  have e2 : vs 65536 (fun t => (M.set k q).getD (k + (1 + t)) 0) m = vs 65536 (fun t => M.getD (k + 1 + t) 0) m := vs_congr (fun t _ => by rw [getD_set_ne (by omega), Nat.add_assoc])
  rw [e1, e2, hv, Int.mul_add, Int.mul_add, Int.mul_comm d q, Int.mul_left_comm d]
  omega

theorem Own.one (w : World) (x : Int) : Own (w.alloc (.cells #[.int .u64 x] 45)) w.heap.size (.slice (some ⟨w.heap.size, 0, none⟩) 1 1) [x] :=
  World.ownsRow_lit w #[.int .u64 x] 1 (Nat.le_refl _) (by unfold maxLen; omega) rfl

theorem cmpZ_le {x y : Int} (h : x ≤ y) : cmpZ x y ≤ 0 := by unfold cmpZ; split <;> (try split) <;> omega
theorem cmpZ_nle {x y : Int} (h : ¬ x ≤ y) : ¬ cmpZ x y ≤ 0 := by unfold cmpZ; split <;> (try split) <;> omega

theorem halve {lo hi mid : Int} (h : lo < hi) (hm : mid = (lo + hi + 1) / 2) : lo < mid ∧ mid ≤ hi := by omega

set_option maxHeartbeats 3200000 in
theorem rdiv_any (a b : Option Addr) (la ca lb cb : Nat) (xs ys : List Int) (w : World) (h : Nums w a la ca xs) (h' : Nums w b lb cb ys) (dx : Digs 65536 xs) (dy : Digs 65536 ys) (hpos : 0 < val 65536 ys) (hla : la ≤ 1000) (hlb : lb ≤ 1000) :
    Calls Try.prog 57 #[.slice a la ca, .slice b lb cb] w fun e w' => ∃ a1 k1 c1 qs a2 k2 c2 rs, e = .returned (.tuple #[.slice a1 k1 c1, .slice a2 k2 c2]) ∧ Nums w' a1 k1 c1 qs ∧ Nums w' a2 k2 c2 rs ∧
      (Digs 65536 qs ∧ Top qs ∧ Digs 65536 rs ∧ Top rs ∧ k1 ≤ la ∧ k2 ≤ lb ∧ val 65536 xs = val 65536 qs * val 65536 ys + val 65536 rs ∧ val 65536 rs < val 65536 ys) ∧ Below w.heap.size w w' := by
  have HL : Hid (xs.length = la ∧ ys.length = lb) := ⟨h.hlen, h'.hlen⟩
  obtain ⟨D, hD⟩ : ∃ D, D = val 65536 ys := ⟨_, rfl⟩
  have HD : Hid (D = val 65536 ys) := hD
  rw [← hD] at hpos ⊢
  have HDl : Hid (D < 65536 ^ lb) := by
    have := val_lt_pow (B := 65536) (by decide) dy (k := lb) (by have := HL.out.2; omega)
    exact (show D < 65536 ^ lb by rw [hD]; exact this)
  clear hD
  go_enter Try.func57, Try.ntmps57
  go_wp2_with (at_make; refine wpList_mk _ rfl _ _ 81 rfl Try.underlying81 .i64 .i64 _ _ la rfl rfl (by omega) (by omega) (by omega) ?_)
  intro w1 hb1 hbel hsz
  have HN : Hid ((noughts la).length = la ∧ Digs 65536 (noughts la)) := ⟨length_noughts _, fun x hx => by rw [(List.mem_replicate.1 hx).2]; omega⟩
  go_wp2
  go_loopw [7, 8] (fun rv iv wr => ∃ k : Nat, k ≤ la ∧ iv = .int .i64 ((k : Int) - 1) ∧ ∃ ra rn rc rs M, rv = .slice ra rn rc ∧ Nums wr ra rn rc rs ∧ (ra = none → rc = 0) ∧ Digs 65536 rs ∧ Top rs ∧ val 65536 rs < D ∧ Blk wr w.heap.size M ∧ M.length = la ∧ Digs 65536 M ∧
      vs 65536 (fun t => xs.getD (k + t) 0) (la - k) = D * vs 65536 (fun t => M.getD (k + t) 0) (la - k) + val 65536 rs ∧ Below w.heap.size w wr) (fun _ iv _ => (intOf iv + 1).toNat)
  case atStart => exact ⟨la, Nat.le_refl _, by go_num, none, 0, 0, [], _, rfl, Nums.nil _, fun _ => rfl, Digs.nil _, .inl rfl, by rw [val_nil]; exact hpos, hb1, HN.out.1, HN.out.2, by simp [vs, val], hbel⟩
  case round =>
    obtain ⟨k, hk, rfl, ra, rn, rc, rs, M, rfl, hrs, hrc, hrd, hrt, hrv, hbM, hMl, hMd, hv, hb⟩ := hrel
    have hrn : rn ≤ lb := by
      have := len_le (B := 65536) (by decide) hrd hrt (k := lb) (by have := HDl.out; omega)
      have := hrs.hlen
      omega
    have HR : Hid (Digs 65536 rs ∧ Top rs ∧ val 65536 rs < D ∧ M.length = la ∧ Digs 65536 M ∧ vs 65536 (fun t => xs.getD (k + t) 0) (la - k) = D * vs 65536 (fun t => M.getD (k + t) 0) (la - k) + val 65536 rs) := ⟨hrd, hrt, hrv, hMl, hMd, hv⟩
    clear hrd hrt hrv hMl hMd hv hb1 hbel
    cases k with
    | zero =>
      have hm1 : ((0 : Nat) : Int) - 1 = -1 := by omega
      have hnM := hbM.nums (fun x hx => by have := HR.out.2.2.2.2.1 x hx; omega) HR.out.2.2.2.1 (by omega)
      have hfin : val 65536 xs = val 65536 M * D + val 65536 rs := by
        have := HR.out.2.2.2.2.2
        simp only [Nat.zero_add, Nat.sub_zero] at this
        rw [vs_all _ xs (by have := HL.out.1; omega), vs_all _ M (by have := HR.out.2.2.2.1; omega), Int.mul_comm] at this
        exact this
      have HF : Hid (val 65536 xs = val 65536 M * D + val 65536 rs) := hfin
      clear hfin
      rw [hm1]
      go_wp2_with fail
      refine (cut_any _ _ _ _ _ hnM).mono ?_
      rintro e w2 ⟨m, rfl, htr, hw2⟩
      subst hw2
      have hml : m ≤ la := by have := htr.le; have := HR.out.2.2.2.1; omega
      have hn2 := hnM.take hml
      have HZ : Hid (Digs 65536 (M.take m) ∧ Top (M.take m) ∧ Digs 65536 rs ∧ Top rs ∧ m ≤ la ∧ rn ≤ lb ∧ val 65536 xs = val 65536 (M.take m) * D + val 65536 rs ∧ val 65536 rs < D) :=
        ⟨HR.out.2.2.2.2.1.take m, htr.Top, HR.out.1, HR.out.2.1, hml, hrn, by rw [htr.val]; exact HF.out, HR.out.2.2.1⟩
      clear htr hnM
      go_wp2
      go_ret2
      exact ⟨_, _, _, _, _, _, _, _, rfl, hn2, hrs, HZ.out, hb⟩
    | succ k =>
      have hm1 : ((k + 1 : Nat) : Int) - 1 = (k : Int) := by omega
      have hm2 : (k : Int) + 1 - 1 = (k : Int) := by omega
      obtain ⟨b1, o1, rfl, hc⟩ := (h.below hb).cells (by omega)
      obtain ⟨x, hx⟩ : ∃ x, x = xs.getD k 0 := ⟨_, rfl⟩
      have c1 : wr.cell? ⟨b1, o1 + k, none⟩ = some (.int .u64 x) := by rw [hx]; exact hc k (by omega)
      have bx : 0 ≤ x ∧ x < 65536 := by rw [hx]; exact dx.getD (by decide) _
      have HX : Hid (x = xs.getD k 0) := hx
      have hkl : (k : Int) < (la : Int) := by omega
      clear hx hc
      rw [hm1]
      have hrs1 := hrs.below ((Below.refl wr.heap.size wr).alloc (Nat.le_refl _) (.cells #[.int .u64 x] 45))
      go_wp2_with (at_builtin; refine wpList_appN _ rfl _ _ 81 rfl Try.underlying81 wr.heap.size _ [x] rfl (Own.one wr x) ra rn rc rs rfl hrs1 hrc ?c1 wr ?c2 ?c3 ?_)
      case c1 => simp; omega
      case c2 => simp
      case c3 => exact (Below.refl wr.heap.size wr).alloc (Nat.le_refl _) _
      intro v' w2 hown2 hb2
      have hgq := hbM.lt
      have hdig : Digs 18446744073709551616 ([x] ++ rs) := fun y hy => by
        rcases List.mem_append.1 hy with h1 | h1
        · simp at h1; omega
        · have := HR.out.1 y h1; omega
      obtain ⟨a3, n3, c3, rfl, hn3, hfr3⟩ := hown2.fresh hdig
      have hn3l : n3 ≤ 1001 := by have h1 := hn3.hlen; have h2 := hrs.hlen; rw [List.length_cons] at h1; omega
      have hap3 : 0 < n3 → Apart a3 w.heap.size := fun hp y hy => by
        obtain ⟨g, e1, e2, _⟩ := hfr3 hp
        rw [e1] at hy
        cases hy
        exact (show g ≠ w.heap.size by omega)
      have hbM2 := hbM.below hb2 hgq
      have hbw2 := hb.trans (hb2.mono hb.size)
      clear hown2 hdig hfr3 hrs hrs1 hrc hbM hb hb2 c1
      go_wp2_with fail
      refine (cut_any _ _ _ _ _ hn3).mono ?_
      rintro e w3 ⟨m, rfl, htr, hw3⟩
      subst hw3
      obtain ⟨es, hesd⟩ : ∃ es, es = (x :: rs).take m := ⟨_, rfl⟩
      obtain ⟨V, hV⟩ : ∃ V, V = x + 65536 * val 65536 rs := ⟨_, rfl⟩
      have hmn : m ≤ n3 := by have h1 := htr.le; have h2 := hn3.hlen; omega
      have hes := hn3.take hmn
      rw [← hesd] at hes
      have HE : Hid (Digs 65536 es ∧ Top es ∧ val 65536 es = V ∧ V = x + 65536 * val 65536 rs) := by
        refine (show Digs 65536 es ∧ Top es ∧ val 65536 es = V ∧ V = x + 65536 * val 65536 rs from ⟨?_, ?_, ?_, hV⟩)
        · rw [hesd]
          refine Digs.take (fun y hy => ?_) m
          rcases List.mem_cons.1 hy with h1 | h1
          · omega
          · exact HR.out.1 y h1
        · rw [hesd]; exact htr.Top
        · rw [hesd, htr.val, hV]; rfl
      have hV0 : 0 ≤ V ∧ V < 65536 * D := by
        have := val_nonneg (B := 65536) (by decide) HR.out.1
        have := HR.out.2.2.1
        omega
      have hm1001 : m ≤ 1001 := by omega
      have hap : 0 < m → Apart a3 w.heap.size := fun hp => hap3 (by omega)
      have hgq3 : w.heap.size < w3.heap.size := hbM2.lt
      have hy3 := h'.below hbw2
      clear htr hn3 hn3l hap3 hesd hV hmn
      go_wp2
      go_loopw [9, 10] (fun lv hv wr => ∃ lo hi : Int, lv = .int .u64 lo ∧ hv = .int .u64 hi ∧ 0 ≤ lo ∧ lo ≤ hi ∧ hi ≤ 65535 ∧ lo * D ≤ V ∧ V < (hi + 1) * D ∧ Below w3.heap.size w3 wr) (fun lv hv _ => (intOf hv - intOf lv).toNat)
      case atStart => exact ⟨0, 65535, rfl, rfl, by omega, by omega, by omega, by omega, by omega, Below.refl _ _⟩
      case round =>
        obtain ⟨lo, hi, rfl, rfl, h0, h1, h2, h3, h4, hbq⟩ := hrel
        have HI : Hid (lo * D ≤ V ∧ V < (hi + 1) * D) := ⟨h3, h4⟩
        clear h3 h4
        have hyr := hy3.below hbq
        have her := hes.below hbq
        by_cases hlt : lo < hi
        · obtain ⟨mid, hmid⟩ : ∃ mid, (lo + hi + 1) / 2 = mid := ⟨_, rfl⟩
          have hm := halve hlt hmid.symm
          have b4 := (Below.refl wr.heap.size wr).alloc (Nat.le_refl _) (.cells #[.int .u64 mid] 45)
          have L1 := Nums.lit1 wr mid (by omega) 45
          have hy4 := hyr.below b4
          have he4 := her.below b4
          have hbq4 := hbq.trans (b4.mono hbq.size)
          have dm : Digs 65536 [mid] := by intro y hy; simp at hy; omega
          clear b4 hyr her
          go_wp2_with fail
          refine (rmul_any _ _ _ _ _ _ ys [mid] _ hy4 L1 dy dm (by omega) (by omega)).mono ?_
          rintro e w4 ⟨a4, n4, c4, ds, rfl, hds, hdd, hdt, hn4, hdv, hb4⟩
          have he5 := he4.below hb4
          have hbq5 := hbq4.trans (hb4.mono hbq4.size)
          have hdv' : val 65536 ds = mid * D := by rw [hdv, ← HD.out]; simp [val, Int.mul_comm]
          clear hdv hb4 hy4 he4 L1
          go_wp2_with fail
          refine (compare_any 65536 (by decide) _ _ _ _ _ _ ds es _ hds he5 hdd HE.out.1 hdt HE.out.2.1).mono ?_
          rintro e w5 ⟨rfl, hb5⟩
          have hbq6 := hbq5.trans (hb5.mono hbq5.size)
          rw [hdv', HE.out.2.2.1]
          clear hb5 he5 hds hdd hdt hdv'
          by_cases hc : mid * D ≤ V
          · have hcm := cmpZ_le hc
            have HC : Hid (mid * D ≤ V) := hc
            clear hc
            generalize cmpZ (mid * D) V = cc at hcm ⊢
            go_wp2
            go_roundw
            case rel => exact ⟨mid, hi, rfl, rfl, by omega, by omega, by omega, HC.out, HI.out.2, hbq6⟩
            case measure => simp [intOf]; omega
          · have hcm := cmpZ_nle hc
            have HC : Hid (V < mid * D) := Int.not_le.1 hc
            clear hc
            generalize cmpZ (mid * D) V = cc at hcm ⊢
            go_wp2
            go_roundw
            case rel => exact ⟨lo, mid - 1, rfl, rfl, by omega, by omega, by omega, HI.out.1, by rw [Int.sub_add_cancel]; exact HC.out, hbq6⟩
            case measure => simp [intOf]; omega
        · obtain rfl : lo = hi := by omega
          have hbMr := hbM2.below hbq hgq3
          have hcv : ∃ v, wr.cell? ⟨w.heap.size, k, none⟩ = some v := ⟨_, hbMr.cell (by have := HR.out.2.2.2.1; omega)⟩
          obtain ⟨v0, hcv⟩ := hcv
          have hfz : wr.frozen? ⟨w.heap.size, k, none⟩ = false := hbMr.frozen _
          have hbwr := hbw2.trans (hbq.mono hbw2.size)
          have hgs := grown_set wr w.heap.size k (.int .u64 lo)
          have hblt : 0 < lb → Apart b w.heap.size := fun hp y hy => by
            obtain ⟨b5, o5, e5, hc5⟩ := h'.cells hp
            have := World.block_lt_of_cell? w _ (hc5 0 hp)
            rw [e5] at hy
            cases hy
            exact Nat.ne_of_lt this
          have hy6 : Nums (wr.setCell ⟨w.heap.size, k, none⟩ (.int .u64 lo)) b lb cb ys := hyr.grown hgs hblt
          have he6 : Nums (wr.setCell ⟨w.heap.size, k, none⟩ (.int .u64 lo)) a3 m c3 es := her.grown hgs hap
          have hB6 : Blk (wr.setCell ⟨w.heap.size, k, none⟩ (.int .u64 lo)) w.heap.size (M.set k lo) := hbMr.set k lo
          have hw6 : Below w.heap.size w (wr.setCell ⟨w.heap.size, k, none⟩ (.int .u64 lo)) := hbwr.setCell (Nat.le_refl _) _
          have HH : Hid (∀ w6, w6 = wr.setCell ⟨w.heap.size, k, none⟩ (.int .u64 lo) → Nums w6 b lb cb ys ∧ Nums w6 a3 m c3 es ∧ Blk w6 w.heap.size (M.set k lo) ∧ Below w.heap.size w w6) := fun w6 e => by subst e; exact ⟨hy6, he6, hB6, hw6⟩
          clear hy6 he6 hB6 hw6 hgs hyr her hbMr hbwr hbM2 hbw2 hes hy3 hbq
          go_wp2_with fail
          obtain ⟨w6, hw6e⟩ : ∃ w6, w6 = wr.setCell ⟨w.heap.size, k, none⟩ (.int .u64 lo) := ⟨_, rfl⟩
          obtain ⟨hy6, he6, hB6, hw6⟩ := HH.out w6 hw6e
          have hsz6 : wr.heap.size = w6.heap.size := by rw [hw6e]; simp
          rw [hsz6, ← hw6e]
          clear hw6e HH hcv hfz hsz6
          have b7 := (Below.refl w6.heap.size w6).alloc (Nat.le_refl _) (.cells #[.int .u64 lo] 45)
          have L1 := Nums.lit1 w6 lo (by omega) 45
          have hg6 := hB6.lt
          have hy7 := hy6.below b7
          have he7 := he6.below b7
          have hB7 := hB6.below b7 hg6
          have hw7 := hw6.trans (b7.mono hw6.size)
          have dm : Digs 65536 [lo] := by intro y hy; simp at hy; omega
          clear b7 hy6 he6 hB6 hw6
          refine (rmul_any _ _ _ _ _ _ ys [lo] _ hy7 L1 dy dm (by omega) (by omega)).mono ?_
          rintro e w8 ⟨a4, n4, c4, ds, rfl, hds, hdd, hdt, hn4, hdv, hb8⟩
          have he8 := he7.below hb8
          have hB8 := hB7.below hb8 hB7.lt
          have hw8 := hw7.trans (hb8.mono hw7.size)
          have hdv' : val 65536 ds = lo * D := by rw [hdv, ← HD.out]; simp [val, Int.mul_comm]
          clear hdv hb8 hy7 he7 L1 hB7 hw7
          go_wp2_with fail
          refine (rsub_any _ _ _ _ _ _ es ds _ he8 hds HE.out.1 hdd hdt (by rw [hdv', HE.out.2.2.1]; exact HI.out.1) (by omega)).mono ?_
          rintro e w9 ⟨a9, n9, c9, rs9, rfl, hn9, hd9, ht9, hl9, hnone9, hv9, hb9⟩
          have hB9 := hB8.below hb9 hB8.lt
          have hw9 := hw8.trans (hb9.mono hw8.size)
          rw [hdv', HE.out.2.2.1] at hv9
          have hlt9 : val 65536 rs9 < D := by rw [hv9]; have := HI.out.2; rw [Int.add_mul, Int.one_mul] at this; omega
          have R9 := rd_step (L := xs) (M := M) (n := la) (k := k) (d := D) (q := lo) (r' := val 65536 rs9) (by omega) HR.out.2.2.2.1 HR.out.2.2.2.2.2 (by rw [← HX.out, ← HE.out.2.2.2, hv9]; omega)
          have HZ : Hid (Digs 65536 rs9 ∧ Top rs9 ∧ val 65536 rs9 < D ∧ (M.set k lo).length = la ∧ Digs 65536 (M.set k lo) ∧ vs 65536 (fun t => xs.getD (k + t) 0) (la - k) = D * vs 65536 (fun t => (M.set k lo).getD (k + t) 0) (la - k) + val 65536 rs9) :=
            ⟨hd9, ht9, hlt9, by simpa using HR.out.2.2.2.1, HR.out.2.2.2.2.1.set _ (by omega), R9⟩
          clear hd9 ht9 hlt9 R9 hv9 hb9 hB8 hw8 he8 hds hdd hdt hdv'
          go_wp2
          go_roundw
          case rel => exact ⟨k, by omega, by go_num, _, _, _, rs9, M.set k lo, rfl, hn9, hnone9, HZ.out.1, HZ.out.2.1, HZ.out.2.2.1, hB9, HZ.out.2.2.2.1, HZ.out.2.2.2.2.1, HZ.out.2.2.2.2.2, hw9⟩
          case measure => simp [intOf]
end Go.Proofs.Ytchmlfjjgehbkaa

namespace Go.Proofs.Ytchmlfjjgehbkaa
open Go.RowKit

set_option maxHeartbeats 800000 in
theorem refDiv_any (a b : Option Addr) (la ca lb cb : Nat) (zs ys : List Int) (w : World) (h : Nums w a la ca zs) (h' : Nums w b lb cb ys) :
    Calls Try.prog 38 #[.slice a la ca, .slice b lb cb] w fun e w' => ∃ a1 k1 c1 qs a2 k2 c2 rs err, e = .returned (.tuple #[.slice a1 k1 c1, .slice a2 k2 c2, .int .i64 err]) ∧ Nums w' a1 k1 c1 qs ∧ Nums w' a2 k2 c2 rs ∧
      ResDiv zs ys qs rs err ∧ Below w.heap.size w w' := by
  cases hr : rightB zs with
  | false =>
    go_enter Try.func38, Try.ntmps38
    go_wp2_with fail
    refine (refRight_any _ _ _ _ _ h).mono ?_
    rintro e w' ⟨rfl, rfl⟩
    go_wp2_with fail
    refine (refRight_any _ _ _ _ _ h').mono ?_
    rintro e w0 ⟨rfl, rfl⟩
    go_wp2_with fail
    go_ret3
    exact ⟨none, 0, 0, [], none, 0, 0, [], 1, rfl, Nums.nil _, Nums.nil _, by simp [ResDiv, hr], Below.refl _ _⟩
  | true =>
  cases hr' : rightB ys with
  | false =>
    go_enter Try.func38, Try.ntmps38
    go_wp2_with fail
    refine (refRight_any _ _ _ _ _ h).mono ?_
    rintro e w' ⟨rfl, rfl⟩
    go_wp2_with fail
    refine (refRight_any _ _ _ _ _ h').mono ?_
    rintro e w0 ⟨rfl, rfl⟩
    go_wp2_with fail
    go_ret3
    exact ⟨none, 0, 0, [], none, 0, 0, [], 1, rfl, Nums.nil _, Nums.nil _, by simp [ResDiv, hr'], Below.refl _ _⟩
  | true =>
  have hyl' := h'.hlen
  by_cases h0 : lb = 0
  · subst h0
    have HP : Hid (ResDiv zs ys [] [] 3) := (show ResDiv zs ys [] [] 3 by simp [ResDiv, hr, hr', hyl'])
    clear hyl'
    go_enter Try.func38, Try.ntmps38
    go_wp2_with fail
    refine (refRight_any _ _ _ _ _ h).mono ?_
    rintro e w' ⟨rfl, rfl⟩
    go_wp2_with fail
    refine (refRight_any _ _ _ _ _ h').mono ?_
    rintro e w0 ⟨rfl, rfl⟩
    go_wp2_with fail
    go_ret3
    exact ⟨none, 0, 0, [], none, 0, 0, [], 3, rfl, Nums.nil _, Nums.nil _, HP.out, Below.refl _ _⟩
  · have hla : la ≤ 64 := by have := right_len hr; have := h.hlen; omega
    have hlb : lb ≤ 64 := by have := right_len hr'; have := h'.hlen; omega
    have hzd := h.digs
    have hyd := h'.digs
    have hzl := right_len hr
    have hyl := right_len hr'
    have hb0 : ((lb : Int) == 0) = false := by simp; omega
    have HMK : Hid (∀ qs rs : List Int, Digs 18446744073709551616 qs → Digs 18446744073709551616 rs → Top qs → Top rs → val 18446744073709551616 zs = val 18446744073709551616 qs * val 18446744073709551616 ys + val 18446744073709551616 rs → val 18446744073709551616 rs < val 18446744073709551616 ys → ResDiv zs ys qs rs 0) :=
      fun qs rs => resdiv_mk hzd hyd hr hr' (by omega)
    have HP : Hid (0 < val 18446744073709551616 ys) := right_pos hyd hr' (by omega)
    clear hyl' h0
    go_enter Try.func38, Try.ntmps38
    go_wp2_with fail
    refine (refRight_any _ _ _ _ _ h).mono ?_
    rintro e w' ⟨rfl, rfl⟩
    go_wp2_with fail
    refine (refRight_any _ _ _ _ _ h').mono ?_
    rintro e w0 ⟨rfl, rfl⟩
    go_wp2_with fail
    refine (in_any _ _ _ _ _ h (by omega)).mono ?_
    rintro e w1 ⟨a1, n1, c1, ds, rfl, hn1, hd1, ht1, hv1, hb1⟩
    have hl1 := in_len hd1 ht1 hv1 hzd hzl
    have hl1' : n1 ≤ 256 := by have := hn1.hlen; omega
    have HV1 : Hid (val 65536 ds = val 18446744073709551616 zs) := hv1
    clear hv1 hl1
    go_wp2_with fail
    refine (in_any _ _ _ _ _ (h'.below hb1) (by omega)).mono ?_
    rintro e w2 ⟨a2, n2, c2, es, rfl, hn2, hd2, ht2, hv2, hb2⟩
    have hl2 := in_len hd2 ht2 hv2 hyd hyl
    have hl2' : n2 ≤ 256 := by have := hn2.hlen; omega
    have HV2 : Hid (val 65536 es = val 18446744073709551616 ys) := hv2
    clear hv2 hl2
    have hb12 := hb1.trans (hb2.mono hb1.size)
    go_wp2_with fail
    refine (rdiv_any _ _ _ _ _ _ _ _ _ (hn1.below hb2) hn2 hd1 hd2 (by rw [HV2.out]; exact HP.out) (by omega) (by omega)).mono ?_
    rintro e w3 ⟨a3, n3, c3, qs, a4, n4, c4, rs, rfl, hq, hrn, hz, hb3⟩
    have hb13 := hb12.trans (hb3.mono hb12.size)
    have hn3' : n3 ≤ 256 := by have := hz.2.2.2.2.1; omega
    have hn4' : n4 ≤ 256 := by have := hz.2.2.2.2.2.1; omega
    have HZ : Hid (Digs 65536 qs ∧ Top qs ∧ Digs 65536 rs ∧ Top rs ∧ val 65536 ds = val 65536 qs * val 65536 es + val 65536 rs ∧ val 65536 rs < val 65536 es) := ⟨hz.1, hz.2.1, hz.2.2.1, hz.2.2.2.1, hz.2.2.2.2.2.2.1, hz.2.2.2.2.2.2.2⟩
    clear hz hb1 hb2 hb12 hb3 hn1 hn2
    go_wp2_with fail
    refine (out_any _ _ _ _ _ hq HZ.out.1 HZ.out.2.1 (by omega)).mono ?_
    rintro e w4 ⟨a5, n5, c5, us, rfl, hn5, hd5, ht5, hv5, hb4⟩
    have hb14 := hb13.trans (hb4.mono hb13.size)
    have hr4 := hrn.below hb4
    clear hb13 hb4 hrn hq
    go_wp2_with fail
    refine (out_any _ _ _ _ _ hr4 HZ.out.2.2.1 HZ.out.2.2.2.1 (by omega)).mono ?_
    rintro e w5 ⟨a6, n6, c6, vs', rfl, hn6, hd6, ht6, hv6, hb5⟩
    have hb15 := hb14.trans (hb5.mono hb14.size)
    have hn5' := hn5.below hb5
    have HR : Hid (ResDiv zs ys us vs' 0) := HMK.out us vs' hd5 hd6 ht5 ht6 (by rw [← HV1.out, ← HV2.out, hv5, hv6]; exact HZ.out.2.2.2.2.1) (by rw [← HV2.out, hv6]; exact HZ.out.2.2.2.2.2)
    clear hv5 hv6 hb14 hb5 hr4 hn5
    go_wp2_with fail
    go_ret3
    exact ⟨_, _, _, _, _, _, _, _, _, rfl, hn5', hn6, HR.out, hb15⟩
end Go.Proofs.Ytchmlfjjgehbkaa

namespace Go.Proofs.Ytchmlfjjgehbkaa
open Go.RowKit

theorem power_val (whole : Nat) (y : Int) : val 65536 ((noughts (whole + 1)).set whole y) = 65536 ^ whole * y := by
  have hz : ∀ j, (noughts (whole + 1)).getD j 0 = 0 := fun j => by simp only [noughts, List.getD, List.getElem?_replicate]; split <;> rfl
  have e := vs_set (B := 65536) (M := noughts (whole + 1)) (j := whole) (n := whole + 1) (v := y) (by omega) (by rw [length_noughts]; omega)
  rw [vs_all _ _ (by rw [List.length_set, length_noughts]; omega), vs_zero _ (fun i _ => hz i), hz, Int.sub_zero, Int.zero_add] at e
  exact e

theorem pow16 (whole part : Nat) : (2 : Int) ^ (16 * whole + part) = 65536 ^ whole * 2 ^ part := by rw [Int.pow_add, Int.pow_mul]; congr 1

end Go.Proofs.Ytchmlfjjgehbkaa

namespace Go.Proofs.Ytchmlfjjgehbkaa
open Go.RowKit

theorem shl_one {ls : List Int} {e : Int} (h : ResShl [1] 0 ls e) : ls.length = 1 := by
  have h2 : ResShl [1] 0 [1] 0 := by
    rw [ResShl, if_pos (by decide), if_neg (by decide), if_neg (by decide)]
    exact .inl ⟨rfl, by intro x hx; simp at hx; omega, by simp [Top], by simp, by simp [val]⟩
  rw [(h.unique h2).1]; rfl
end Go.Proofs.Ytchmlfjjgehbkaa
