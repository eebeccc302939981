/-
  Contracts of slices.Equal, slices.Grow and slices.Concat of bytes.
-/
import Derived.Test.YtpoipobmkfphcaaX10B
import Derived.Lib.AppendZeros
import Derived.BigQuiet
namespace Go.Proofs.Ytpoipobmkfphcaa
open Go.RowKit

theorem eq_all10 {xs ys : List Int} (hl : xs.length = ys.length) (h : ∀ j, j < xs.length → xs.getD j 0 = ys.getD j 0) : xs = ys := by
  refine List.ext_getElem hl (fun i h1 h2 => ?_)
  have := h i h1
  simpa [List.getD, h1, h2] using this

set_option maxRecDepth 20000 in
set_option maxHeartbeats 1600000 in
theorem equal10_any (a b : Option Addr) (la ca lb cb : Nat) (xs ys : List Int) (w : World) (hx : Byts w a la ca xs) (hy : Byts w b lb cb ys) :
    Calls Try.prog 26 #[.slice a la ca, .slice b lb cb] w fun e w' => e = .returned (.bool (decide (xs = ys))) ∧ Below w.heap.size w w' := by
  have hm := hx.hmax
  have hc := hx.hcap
  unfold maxLen at hm
  have HL : Hid (xs.length = la ∧ ys.length = lb) := ⟨hx.hlen, hy.hlen⟩
  by_cases hl : la = lb
  case neg =>
    have hne : ((la : Int) != (lb : Int)) = true := by simp; omega
    have HE : Hid (false = decide (xs = ys)) := (decide_eq_false (fun e => hl (by rw [← HL.out.1, ← HL.out.2, e]))).symm
    clear hx hy HL hl
    go_enter Try.func26, Try.ntmps26
    go_wp2
    go_ret
    exact ⟨ret_bool HE.out, Below.refl _ _⟩
  subst hl
  have H : Hid (Byts w a la ca xs ∧ Byts w b la cb ys) := ⟨hx, hy⟩
  clear hx hy
  obtain ⟨D, hD⟩ : ∃ D, D = decide (xs = ys) := ⟨_, rfl⟩
  have HD : Hid (D = decide (xs = ys)) := hD
  rw [← hD]
  clear hD
  go_enter Try.func26, Try.ntmps26
  go_wp2
  go_loopw [13] (fun v13 wr => ∃ k : Nat, k ≤ la ∧ v13 = .int .i64 k ∧ Hid (∀ j, j < k → xs.getD j 0 = ys.getD j 0) ∧ Below w.heap.size w wr) (fun v13 _ => la - (intOf v13).toNat)
  case atStart => exact ⟨0, by omega, rfl, fun j hj => by omega, Below.refl _ _⟩
  case round =>
    obtain ⟨k, hk, rfl, HE, hb⟩ := hrel
    by_cases hlt : k < la
    · have hlti : (k : Int) < (la : Int) := by omega
      obtain ⟨b1, o1, rfl, c1⟩ := (H.out.1.below hb).cells (by omega)
      obtain ⟨b2, o2, rfl, c2⟩ := (H.out.2.below hb).cells (by omega)
      replace c1 := c1 k hlt
      replace c2 := c2 k hlt
      obtain ⟨x, hx⟩ : ∃ x, x = xs.getD k 0 := ⟨_, rfl⟩
      obtain ⟨y, hy⟩ : ∃ y, y = ys.getD k 0 := ⟨_, rfl⟩
      rw [← hx] at c1
      rw [← hy] at c2
      have HX : Hid (x = xs.getD k 0 ∧ y = ys.getD k 0) := ⟨hx, hy⟩
      clear hx hy
      by_cases hxy : x = y
      · have hq : (x != y) = false := by simp [hxy]
        have HN : Hid (∀ j, j < k + 1 → xs.getD j 0 = ys.getD j 0) := fun j hj => by
          by_cases e : j = k
          · subst e
            rw [← HX.out.1, ← HX.out.2]; exact hxy
          · exact HE.out j (by omega)
        subst hxy
        clear HX HE
        go_wp2
        go_quiet (fail)
        go_wp2
        go_roundw
        case rel => exact ⟨k + 1, by omega, by go_num, HN, below_drewN hb _⟩
        case measure => simp [intOf]; omega
      · have hq : (x != y) = true := by simp [hxy]
        have hq2 : (x == y) = false := by simp [hxy]
        have HF : Hid (false = D) := by
          show _ = _
          rw [HD.out]
          exact (decide_eq_false (fun e => hxy (by rw [HX.out.1, HX.out.2, e]))).symm
        clear HX HE HD hxy
        go_wp2
        go_quiet (fail)
        go_wp2
        go_ret
        exact ⟨ret_bool HF.out, below_drewN hb _⟩
    · obtain rfl : k = la := by omega
      have HF : Hid (true = D) := by
        show _ = _
        rw [HD.out]
        exact (decide_eq_true (eq_all10 (by rw [HL.out.1, HL.out.2]) (fun j hj => HE.out j (by rw [← HL.out.1]; exact hj)))).symm
      clear HE HD
      go_wp2
      go_ret
      exact ⟨ret_bool HF.out, hb⟩

set_option maxHeartbeats 800000 in
theorem grow10_any (n : Nat) (w : World) (h0 : 0 < n) (hn : n ≤ 140737488355328) :
    Calls Try.prog 34 #[.slice none 0 0, .int .i64 n] w fun e w' => ∃ v, e = .returned v ∧ BOwn w' w.heap.size v [] ∧ Below w.heap.size w w' := by
  obtain ⟨i0, hi, hz0, hz1, hz2⟩ := info_parts Try.infoB
  have hrun := fun ty => Lib.run_append_nil_zeros (P := Try.prog) w 22 3 ty 5 i0 (.int .u8 0) .i64 .i64 Try.underlying22 Try.underlying3 hi hz0 n h0 (by omega) (by omega) (by rw [hz2]; omega)
  have hG := grownCap_ge w n 0 5
  have hM := grownCap_le_maxLen w n 0 5 (by unfold maxLen; omega)
  obtain ⟨G, hGe⟩ : ∃ G, G = grownCap w n 0 5 := ⟨_, rfl⟩
  rw [← hGe] at hG hM
  have hrun2 : ∀ ty, ∃ cur : Array Value, cur.size = G ∧ (Builtin.append_ #[22, 3] ty #[.slice none 0 0, .int .i64 n]).run Try.prog w = .ok (.slice (some ⟨w.heap.size, 0, none⟩) n G) (w.drew.alloc (.cells cur 5)) := fun ty => by
    refine ⟨_, ?_, by rw [hGe]; exact hrun ty⟩
    rw [Array.size_append, size_zeroCells, size_zeroCells]
    simp [Value.cells]
    omega
  clear hrun hGe
  unfold maxLen at hM
  have h0i : (0 : Int) < (n : Int) := by omega
  go_enter Try.func34, Try.ntmps34
  go_wp2_with (at_builtin; obtain ⟨cur, hcs, hr⟩ := hrun2 _; refine Lib.wpList_append_run _ rfl _ _ _ _ rfl _ _ rfl rfl _ _ hr ?_)
  have HO : Hid (BOwn (w.drew.alloc (.cells cur 5)) w.heap.size (.slice (some ⟨w.heap.size, 0, none⟩) 0 G) []) := World.ownsRow_made w.drew cur G (Nat.le_refl _) (by unfold maxLen; omega) (by omega)
  have hB := (below_drewN (Below.refl w.heap.size w) 1).alloc (Nat.le_refl _) (.cells cur 5)
  clear hrun2 hr
  go_ret
  exact ⟨_, rfl, HO.out, hB⟩

/-- Rows of bytes that lie in a row, and what they are put together. -/
def Parts10 (w : World) (g : Nat) (ps : List (Option Addr × Nat × Nat × List Int)) : Prop := ∀ i p, ps[i]? = some p → w.cell? ⟨g, i, none⟩ = some (.slice p.1 p.2.1 p.2.2.1) ∧ Byts w p.1 p.2.1 p.2.2.1 p.2.2.2 ∧ (p.1 = none → p.2.2.1 = 0)
def catL (ps : List (Option Addr × Nat × Nat × List Int)) : List Int := (ps.map (·.2.2.2)).flatten
theorem Parts10.below {w w' : World} {g : Nat} {ps : List (Option Addr × Nat × Nat × List Int)} (h : Parts10 w g ps) (hb : Below w.heap.size w w') : Parts10 w' g ps := fun i p hp => ⟨bkeep hb (h i p hp).1 rfl, (h i p hp).2.1.below hb, (h i p hp).2.2⟩
theorem catL_snoc {ps : List (Option Addr × Nat × Nat × List Int)} {i : Nat} {p : Option Addr × Nat × Nat × List Int} (h : ps[i]? = some p) : catL (ps.take (i + 1)) = catL (ps.take i) ++ p.2.2.2 := by
  unfold catL
  rw [List.take_add_one, h]
  simp
theorem catL_le (ps : List (Option Addr × Nat × Nat × List Int)) (i : Nat) : (catL (ps.take i)).length ≤ (catL ps).length := by
  have e : catL ps = catL (ps.take i) ++ catL (ps.drop i) := by
    unfold catL
    rw [← List.flatten_append, ← List.map_append, List.take_append_drop]
  rw [e, List.length_append]
  omega

set_option maxRecDepth 20000 in
set_option maxHeartbeats 1600000 in
theorem concat10_any (g c : Nat) (ps : List (Option Addr × Nat × Nat × List Int)) (n : Nat) (w : World) (hn : ps.length = n) (hn0 : n ≤ c) (hn1 : c ≤ 1000) (h : Parts10 w g ps) (h0 : 0 < (catL ps).length) (hlen : (catL ps).length ≤ 140737488355328) :
    Calls Try.prog 19 #[.slice (some ⟨g, 0, none⟩) n c] w fun e w' => ∃ v, e = .returned v ∧ BOwn w' w.heap.size v (catL ps) ∧ Below w.heap.size w w' := by
  have H : Hid (Parts10 w g ps) := h
  have HN : Hid (ps.length = n) := hn
  obtain ⟨T, hT⟩ : ∃ T, T = (catL ps).length := ⟨_, rfl⟩
  rw [← hT] at h0 hlen
  have HT : Hid (T = (catL ps).length) := hT
  clear h hn hT
  go_enter Try.func19, Try.ntmps19
  go_wp2
  go_loopw [3, 11] (fun v3 v11 wr => ∃ s i : Nat, v3 = .int .i64 s ∧ v11 = .int .i64 i ∧ i ≤ n ∧ s ≤ 140737488355328 ∧ Hid (s = (catL (ps.take i)).length) ∧ w = wr) (fun _ v11 _ => n - (intOf v11).toNat)
  case atStart => exact ⟨0, 0, rfl, rfl, by omega, by omega, by show _ = _; simp [catL], rfl⟩
  case round =>
    obtain ⟨s, i, rfl, rfl, hi, hs, HS, rfl⟩ := hrel
    by_cases hlt : i < n
    · have hlti : (i : Int) < (n : Int) := by omega
      obtain ⟨⟨pa, pl, pc, zs⟩, hp⟩ : ∃ p, ps[i]? = some p := ⟨_, List.getElem?_eq_getElem (by rw [HN.out]; exact hlt)⟩
      obtain ⟨k1, k2, -⟩ := H.out i _ hp
      simp only at k1 k2
      have e := catL_snoc hp
      have hle := catL_le ps (i + 1)
      rw [e, List.length_append, ← HS.out, k2.hlen, ← HT.out] at hle
      have HS2 : Hid (s + pl = (catL (ps.take (i + 1))).length) := by
        show _ = _
        rw [e, List.length_append, ← HS.out, k2.hlen]
      have hnn : decide ((s : Int) + (pl : Int) < 0) = false := decide_eq_false (by omega)
      clear HS hp k2 e
      go_wp2
      go_roundw
      case rel => exact ⟨s + pl, i + 1, by go_num, by go_num, by omega, by omega, HS2, by first | rfl | trivial⟩
      case measure => simp [intOf]; omega
    · obtain rfl : n = i := by omega
      obtain rfl : T = s := by rw [HS.out, HT.out, List.take_of_length_le (by rw [HN.out]; exact Nat.le_refl _)]
      clear HS
      go_wp2_with fail
      refine (grow10_any T _ h0 hlen).mono ?_
      rintro e w1 ⟨v, rfl, hown, hb1⟩
      go_wp2
      go_loopw [6, 27] (fun v6 v27 wr => ∃ i : Nat, v27 = .int .i64 i ∧ i ≤ n ∧ BOwn wr w.heap.size v6 (catL (ps.take i)) ∧ Below w.heap.size w wr) (fun _ v27 _ => n - (intOf v27).toNat)
      case atStart => exact ⟨0, rfl, by omega, by simpa [catL] using hown, hb1⟩
      case round =>
        obtain ⟨i, rfl, hi, hO, hb⟩ := hrel
        clear hown hb1
        by_cases hlt : i < n
        · have hlti : (i : Int) < (n : Int) := by omega
          obtain ⟨⟨pa, pl, pc, zs⟩, hp⟩ : ∃ p, ps[i]? = some p := ⟨_, List.getElem?_eq_getElem (by rw [HN.out]; exact hlt)⟩
          obtain ⟨k1, k2, k3⟩ := (H.out.below hb) i _ hp
          simp only at k1 k2 k3
          have e := catL_snoc hp
          have hle := catL_le ps (i + 1)
          rw [e, List.length_append, k2.hlen, ← HT.out] at hle
          have HE : Hid (catL (ps.take (i + 1)) = catL (ps.take i) ++ zs) := e
          have hsz := hb.size
          clear hp e
          go_wp2_with (at_builtin; refine wpList_appBW _ rfl _ _ 22 rfl Try.underlying22 w.heap.size _ _ rfl hO pa pl pc zs rfl k2 k3 ?c1 w ?c2 hb ?_)
          case c1 => omega
          case c2 => exact hsz
          rintro v' w2 hO2 hb2 -
          rw [← HE.out] at hO2
          clear hO hb k1 k2 k3
          go_wp2
          go_roundw
          case rel => exact ⟨i + 1, by go_num, by omega, hO2, hb2⟩
          case measure => simp [intOf]; omega
        · obtain rfl : n = i := by omega
          rw [List.take_of_length_le (by rw [HN.out]; exact Nat.le_refl _)] at hO
          go_wp2
          go_ret
          exact ⟨_, rfl, hO, hb⟩
end Go.Proofs.Ytpoipobmkfphcaa
