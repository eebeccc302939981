/-
  The contract of the document's Read.
-/
import Derived.Test.YtppfkmbclpebkaaGreatReadB
import Derived.Test.YtppfkmbclpebkaaGreatRefA
namespace Go.Proofs.YtppfkmbclpebkaaGreat
open Go.RowKit

theorem rr_one {f : Nat → Int} {ds : List Int} {t : Nat} (hl : ds.length = t) (hv : val 65536 ds = vs 256 f (2 * t)) : val 65536 (ds ++ [f (2 * t)]) = vs 256 f (2 * t + 1) := by
  rw [val_snoc, hl, hv]
  simp only [vs]
  rw [show (65536 : Int) = 256 ^ 2 by decide, ← Int.pow_mul]

theorem rr_two {f : Nat → Int} {ds : List Int} {t : Nat} (hl : ds.length = t) (hv : val 65536 ds = vs 256 f (2 * t)) : val 65536 (ds ++ [f (2 * t) + 256 * f (2 * t + 1)]) = vs 256 f (2 * t + 2) := by
  rw [val_snoc, hl, hv]
  simp only [vs]
  rw [show (65536 : Int) = 256 ^ 2 by decide, ← Int.pow_mul, Int.pow_succ, Int.mul_add, Int.mul_assoc]
  omega

/-- The bytes behind the noughts ahead, the lowest first. -/
theorem rr_val {bs : List Int} {la k : Nat} (hl : bs.length = la) (hk : k ≤ la) (h0 : ∀ j, j < k → bs.getD j 0 = 0) : vs 256 (fun j => bs.getD (la - 1 - j) 0) (la - k) = val 256 bs.reverse := by
  rw [← vs_all 256 bs.reverse (n := (la - k) + k) (by simp; omega), vs_add]
  have e1 : vs 256 (fun i => bs.reverse.getD i 0) (la - k) = vs 256 (fun j => bs.getD (la - 1 - j) 0) (la - k) := vs_congr (fun j hj => getD_reverse hl (by omega))
  have e2 : vs 256 (fun i => bs.reverse.getD (la - k + i) 0) k = 0 := vs_zero _ (fun i hi => by rw [getD_reverse hl (by omega)]; exact h0 _ (by omega))
  rw [e1, e2]; omega

theorem rr_long {bs : List Int} {la k : Nat} (hd : Digs 256 bs) (hl : bs.length = la) (hk : k + 512 < la) (h0 : ∀ j, j < k → bs.getD j 0 = 0) (hne : bs.getD k 0 ≠ 0) : (18446744073709551616 : Int) ^ 64 ≤ val 256 bs.reverse := by
  have e : val 256 bs.reverse = val 256 (bs.drop k).reverse := by
    have h1 : bs = bs.take k ++ bs.drop k := (List.take_append_drop k bs).symm
    have h2 := val_lead (B := 256) (x := bs.take k) (y := bs.drop k) (fun v hv => by
      obtain ⟨i, hi, rfl⟩ := List.getElem_of_mem hv
      simp at hi
      have := h0 i (by omega)
      simpa [List.getD, show i < bs.length by omega] using this)
    rw [← h1] at h2
    exact h2
  rw [e]
  refine read_long (fun x hx => hd x (List.mem_of_mem_drop (List.mem_reverse.1 hx))) (.inr ?_) (by simp; omega)
  rw [List.length_reverse, getD_reverse rfl (by simp; omega)]
  have : (bs.drop k).length - 1 - ((bs.drop k).length - 1) = 0 := by omega
  rw [this]
  simpa [List.getD] using hne

set_option maxHeartbeats 3200000 in
theorem refRead_any (a : Option Addr) (la ca : Nat) (bs : List Int) (w : World) (h : Byts w a la ca bs) :
    Calls Tryz.prog 89 #[.slice a la ca] w fun e w' => ∃ a' n c' ls err, e = .returned (.tuple #[.slice a' n c', .int .i64 err]) ∧ Nums w' a' n c' ls ∧ Res (val 256 bs.reverse) ls err ∧ Below w.heap.size w w' := by
  have hl := h.hlen
  have hmx := h.hmax
  have hcp := h.hcap
  unfold maxLen at hmx
  have HL : Hid (bs.length = la) := hl
  have HD : Hid (Digs 256 bs) := h.digs
  clear hl
  go_enter Tryz.func89, Tryz.ntmps89
  go_wp2
  go_loopw [4] (fun v wr => ∃ k : Nat, k ≤ la ∧ v = .int .i64 k ∧ Hid (∀ j, j < k → bs.getD j 0 = 0) ∧ w = wr) (fun v _ => la - (intOf v).toNat)
  case atStart => exact ⟨0, Nat.zero_le _, rfl, fun j hj => by omega, rfl⟩
  case round =>
    obtain ⟨k, hk, rfl, HZ, rfl⟩ := hrel
    by_cases hlt : k < la
    · have hlti : (k : Int) < (la : Int) := by omega
      obtain ⟨b, off, rfl, hc⟩ := h.cells (by omega)
      obtain ⟨x, hx⟩ : ∃ x, x = bs.getD k 0 := ⟨_, rfl⟩
      have hc1 : w.cell? ⟨b, off + k, none⟩ = some (.int .u8 x) := by rw [hx]; exact hc k hlt
      have HX : Hid (x = bs.getD k 0) := hx
      have HC : Hid (∀ j, j < la → w.cell? ⟨b, off + j, none⟩ = some (.int .u8 (bs.getD j 0))) := hc
      clear hx hc
      by_cases hx0 : x = 0
      · subst hx0
        have HZ2 : Hid (∀ j, j < k + 1 → bs.getD j 0 = 0) := fun j hj => by
          by_cases e : j = k
          · subst e; exact HX.out.symm
          · exact HZ.out j (by omega)
        clear HZ
        go_wp2
        go_roundw
        case rel => exact ⟨k + 1, by omega, by go_num, HZ2, by first | rfl | trivial⟩
        case measure => simp [intOf]; omega
      · have hne : (x == 0) = false := by simp [hx0]
        obtain ⟨m, hm1, hm2⟩ : ∃ m : Nat, k + m ≤ la ∧ la ≤ k + m := ⟨la - k, by omega, by omega⟩
        have hv := rr_val HL.out (by omega : k ≤ la) HZ.out
        by_cases h512 : m ≤ 512
        · have hd5 : decide ((512 : Int) < (la : Int) - (k : Int)) = false := by simp; omega
          rw [show la - k = m by omega] at hv
          have HV : Hid (vs 256 (fun j => bs.getD (la - 1 - j) 0) m = val 256 bs.reverse) := hv
          clear hv HX
          go_wp2
          go_loopw [5, 6] (fun dv iv wq => ∃ (t : Nat) (ds : List Int), iv = .int .i64 ((la : Int) - 1 - 2 * (t : Int)) ∧ Own wq w.heap.size dv ds ∧ Hid (ds.length = t) ∧ Digs 65536 ds ∧ Hid (val 65536 ds = vs 256 (fun j => bs.getD (la - 1 - j) 0) (min (2 * t) m)) ∧ 2 * t ≤ m + 1 ∧ Below w.heap.size w wq) (fun _ iv _ => (intOf iv + 2).toNat)
          case atStart => exact ⟨0, [], by go_num, Own.nil _ _, rfl, Digs.nil _, by show _ = _; simp [vs, val], by omega, Below.refl _ _⟩
          case round =>
            obtain ⟨t, ds, rfl, hown, HT, hdd, HW, ht, hbq⟩ := hrel
            have hcq : ∀ j, j < la → wr.cell? ⟨b, off + j, none⟩ = some (.int .u8 (bs.getD j 0)) := fun j hj => (hbq.cell (p := ⟨b, off + j, none⟩) (World.block_lt_of_cell? w _ (HC.out j hj))).trans (HC.out j hj)
            have hdl : ds.length < 1000000 := by have := HT.out; omega
            by_cases h2 : 2 * t < m
            · obtain ⟨x1, hx1⟩ : ∃ x1, x1 = bs.getD (la - 1 - 2 * t) 0 := ⟨_, rfl⟩
              have hcx : wr.cell? ⟨b, off + (la - 1 - 2 * t), none⟩ = some (.int .u8 x1) := by rw [hx1]; exact hcq _ (by omega)
              have b1 : 0 ≤ x1 ∧ x1 < 256 := by rw [hx1]; exact HD.out.getD (by decide) _
              have hge : (k : Int) ≤ (la : Int) - 1 - 2 * (t : Int) := by omega
              have hix : (la : Int) - 1 - 2 * (t : Int) < (la : Int) := by omega
              have hix0 : 0 ≤ (la : Int) - 1 - 2 * (t : Int) := by omega
              by_cases h3 : 2 * t + 1 < m
              · obtain ⟨x2, hx2⟩ : ∃ x2, x2 = bs.getD (la - 1 - (2 * t + 1)) 0 := ⟨_, rfl⟩
                have hcx2 : wr.cell? ⟨b, off + (la - 1 - 2 * t - 1), none⟩ = some (.int .u8 x2) := by rw [hx2, show la - 1 - (2 * t + 1) = la - 1 - 2 * t - 1 by omega]; exact hcq _ (by omega)
                have b2 : 0 ≤ x2 ∧ x2 < 256 := by rw [hx2]; exact HD.out.getD (by decide) _
                have hge2 : (k : Int) ≤ (la : Int) - 1 - 2 * (t : Int) - 1 := by omega
                have hix2 : (la : Int) - 1 - 2 * (t : Int) - 1 < (la : Int) := by omega
                have hix20 : 0 ≤ (la : Int) - 1 - 2 * (t : Int) - 1 := by omega
                have HN : Hid ((ds ++ [x1 + 256 * x2]).length = t + 1 ∧ Digs 65536 (ds ++ [x1 + 256 * x2]) ∧ val 65536 (ds ++ [x1 + 256 * x2]) = vs 256 (fun j => bs.getD (la - 1 - j) 0) (min (2 * (t + 1)) m)) := by
                  refine ⟨by have := HT.out; simp; omega, hdd.snoc ⟨by omega, by omega⟩, ?_⟩
                  have := rr_two (f := fun j => bs.getD (la - 1 - j) 0) HT.out (by have := HW.out; rw [Nat.min_eq_left (by omega)] at this; exact this)
                  rw [← hx1, ← hx2] at this
                  rw [this]; congr 1; omega
                clear hx1 hx2 hcq HW HT
                go_wp2_with (at_builtin; refine wpList_app1 _ rfl _ _ 83 rfl Tryz.underlying83 w.heap.size _ ds rfl (hown.alloc _) ⟨wr.heap.size, 0, none⟩ (x1 + 256 * x2) rfl ?c1 hdl w ?c2 ?c3 ?_)
                case c1 => simp
                case c2 => have := hbq.size; simp; omega
                case c3 => exact hbq.alloc hbq.size _
                intro v' w1 hown1 hb1
                clear hown hbq
                go_wp2
                go_roundw
                case rel => exact ⟨t + 1, _, by go_num, hown1, HN.out.1, HN.out.2.1, HN.out.2.2, by omega, hb1⟩
                case measure => simp [intOf]; omega
              · have hge2 : ¬ (k : Int) ≤ (la : Int) - 1 - 2 * (t : Int) - 1 := by omega
                have hgd : decide ((k : Int) ≤ (la : Int) - 1 - 2 * (t : Int) - 1) = false := by simp; omega
                have HN : Hid ((ds ++ [x1]).length = t + 1 ∧ Digs 65536 (ds ++ [x1]) ∧ val 65536 (ds ++ [x1]) = vs 256 (fun j => bs.getD (la - 1 - j) 0) (min (2 * (t + 1)) m)) := by
                  refine ⟨by have := HT.out; simp; omega, hdd.snoc ⟨by omega, by omega⟩, ?_⟩
                  have := rr_one (f := fun j => bs.getD (la - 1 - j) 0) HT.out (by have := HW.out; rw [Nat.min_eq_left (by omega)] at this; exact this)
                  rw [← hx1] at this
                  rw [this]; congr 1; omega
                clear hx1 hcq HW HT
                go_wp2_with (at_builtin; refine wpList_app1 _ rfl _ _ 83 rfl Tryz.underlying83 w.heap.size _ ds rfl (hown.alloc _) ⟨wr.heap.size, 0, none⟩ x1 rfl ?c1 hdl w ?c2 ?c3 ?_)
                case c2 => have := hbq.size; simp; omega
                case c3 => exact hbq.alloc hbq.size _
                intro v' w1 hown1 hb1
                clear hown hbq
                go_wp2
                go_roundw
                case rel => exact ⟨t + 1, _, by go_num, hown1, HN.out.1, HN.out.2.1, HN.out.2.2, by omega, hb1⟩
                case measure => simp [intOf]; omega
            · have hge : ¬ (k : Int) ≤ (la : Int) - 1 - 2 * (t : Int) := by omega
              have hgd : decide ((k : Int) ≤ (la : Int) - 1 - 2 * (t : Int)) = false := by simp; omega
              have HQ : Hid (val 65536 ds = val 256 bs.reverse) := by
                have := HW.out
                rw [Nat.min_eq_right (by omega), HV.out] at this
                exact this
              obtain ⟨a1, cap1, rfl, hnums⟩ := hown.nums (fun x hx => by have := hdd x hx; omega)
              clear HW hcq hown
              go_wp2_with fail
              refine (cut_any _ _ _ _ _ hnums).mono ?_
              rintro e w3 ⟨q, rfl, htr, rfl⟩
              have hn3 := hnums.take htr.le
              have ht3 := htr.Top
              have HR3 : Hid (val 65536 (ds.take q) = val 256 bs.reverse) := by rw [htr.val]; exact HQ.out
              have hql := htr.le
              clear htr HQ
              go_wp2_with fail
              refine (told_any _ _ _ _ _ hn3 (hdd.take q) ht3 (by have := HT.out; omega)).mono ?_
              rintro e w4 ⟨a4, n4, c4, ls, err, rfl, hls, hres, hb4⟩
              have HRes : Hid (Res (val 256 bs.reverse) ls err) := by have := hres; rw [HR3.out] at this; exact this
              have hB4 := hbq.trans (hb4.mono hbq.size)
              clear hres
              go_wp2
              go_ret2
              exact ⟨_, _, _, _, _, rfl, hls, HRes.out, hB4⟩
        · have hd5 : (512 : Int) < (la : Int) - (k : Int) := by omega
          have HR : Hid (Res (val 256 bs.reverse) [] 4) := res_big (rr_long HD.out HL.out (by omega) HZ.out (by rw [← HX.out]; exact hx0))
          clear hv HZ HX
          go_wp2
          go_ret2
          exact ⟨none, 0, 0, [], 4, rfl, Nums.nil _, HR.out, Below.refl _ _⟩
    · obtain rfl : k = la := by omega
      have HV : Hid (val 256 bs.reverse = 0) := by
        have := rr_val HL.out (Nat.le_refl k) HZ.out
        rw [Nat.sub_self] at this
        exact this.symm
      have hnn := Nums.nil w
      clear HZ hlt hk
      go_wp2
      go_loopw [5, 6] (fun dv iv wq => dv = .slice none 0 0 ∧ iv = .int .i64 ((k : Int) - 1) ∧ w = wq) (fun _ _ _ => 0)
      case atStart => exact ⟨rfl, rfl, rfl⟩
      case round =>
        obtain ⟨rfl, rfl, rfl⟩ := hrel
        have hgd : decide ((k : Int) ≤ (k : Int) - 1) = false := by simp; omega
        go_wp2_with fail
        refine (cut_any _ _ _ _ _ hnn).mono ?_
        rintro e w3 ⟨q, rfl, htr, rfl⟩
        have hq0 : q = 0 := by have := htr.le; simpa using this
        subst hq0
        clear htr
        go_wp2_with fail
        refine (told_any _ _ _ [] _ (Nums.nil _) (Digs.nil _) (.inl rfl) (by omega)).mono ?_
        rintro e w4 ⟨a4, n4, c4, ls, err, rfl, hls, hres, hb4⟩
        have HRes : Hid (Res (val 256 bs.reverse) ls err) := by rw [HV.out]; exact hres
        clear hres
        go_wp2
        go_ret2
        exact ⟨_, _, _, _, _, rfl, hls, HRes.out, hb4⟩
end Go.Proofs.YtppfkmbclpebkaaGreat
