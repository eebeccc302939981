/-
  The contract of the program's Right (wire).
-/
import Derived.Test.YtnbdbahfekneoaaX12B
import Derived.Test.YtnbdbahfekneoaaP12LawsO
namespace Go.Proofs.Ytnbdbahfekneoaa
open Go.RowKit

theorem right_kind {K : Nat} {a b c : Int} {ids rows : List Int} {nats : List (List Int)} (h1 : 1 ≤ K) (h2 : K ≤ 11) : RightM (K : Int) a b c ids rows nats ↔ (upB a (kA K) && upB b (kB K) && upB c (kC K)) = true ∧ (!(kP K && (ids.length != nats.length)) && (inB (kIl K) (kIm K) ids.length && inB 0 (kRm K) rows.length && inB (kNl K) (kNm K) nats.length)) = true ∧ (∀ i, i < ids.length → 0 ≤ ids.getD i 0 ∧ ids.getD i 0 ≤ 1073741824) ∧ (∀ i, i < rows.length → 0 ≤ rows.getD i 0 ∧ rows.getD i 0 ≤ 1073741824) ∧ (∀ i, i < rows.length → 0 < i → rows.getD (i - 1) 0 < rows.getD i 0) ∧ ∀ i, i < nats.length → rightB (nats.getD i []) = true ∧ (nats.getD i []).length ≤ 4 := by
  have hK : K = 1 ∨ K = 2 ∨ K = 3 ∨ K = 4 ∨ K = 5 ∨ K = 6 ∨ K = 7 ∨ K = 8 ∨ K = 9 ∨ K = 10 ∨ K = 11 := by omega
  have hx : (upB a (kA K) && upB b (kB K) && upB c (kC K)) = true ∧ (!(kP K && (ids.length != nats.length)) && (inB (kIl K) (kIm K) ids.length && inB 0 (kRm K) rows.length && inB (kNl K) (kNm K) nats.length)) = true ↔
      ((0 ≤ a ∧ a ≤ kA K) ∧ (0 ≤ b ∧ b ≤ kB K) ∧ (0 ≤ c ∧ c ≤ kC K)) ∧ (K = 5 → ids.length = nats.length) ∧ (kIl K ≤ ids.length ∧ ids.length ≤ kIm K) ∧ (rows.length ≤ kRm K) ∧ (kNl K ≤ nats.length ∧ nats.length ≤ kNm K) := by
    unfold upB inB kP
    simp only [Bool.and_eq_true, decide_eq_true_eq, Bool.not_eq_true', Bool.and_eq_false_iff, decide_eq_false_iff_not, bne_eq_false_iff_eq]
    constructor
    · rintro ⟨⟨⟨x1, x2⟩, x3⟩, x4, ⟨x5, x6⟩, x7⟩
      exact ⟨⟨x1, x2, x3⟩, fun e => x4.resolve_left (fun q => q e), x5, x6.2, x7⟩
    · rintro ⟨⟨x1, x2, x3⟩, x4, x5, x6, x7⟩
      refine ⟨⟨⟨x1, x2⟩, x3⟩, ?_, ⟨x5, by omega, x6⟩, x7⟩
      by_cases e : K = 5
      · exact .inr (x4 e)
      · exact .inl e
  have step : (¬ ((K : Int) < 1 ∨ 11 < (K : Int) ∨ a < 0 ∨ 1073741824 < a ∨ b < 0 ∨ 1073741824 < b ∨ c < 0 ∨ 1073741824 < c) ∧ ¬ ((numsOf K < 2 ∧ b ≠ 0) ∨ (numsOf K < 3 ∧ c ≠ 0) ∨ ((K : Int) = 9 ∧ 1 < c)) ∧
      ¬ ((¬ ((K : Int) = 5 ∨ (K : Int) = 6) ∧ 0 < ids.length) ∨ (¬ ((K : Int) = 4 ∨ (K : Int) = 7) ∧ 0 < rows.length) ∨ (¬ ((K : Int) = 1 ∨ (K : Int) = 3 ∨ (K : Int) = 5) ∧ 0 < nats.length)) ∧
      ¬ (16384 < ids.length ∨ 16384 < rows.length ∨ 16384 < nats.length) ∧ ¬ (((K : Int) = 1 ∧ nats.length ≠ 1) ∨ ((K : Int) = 5 ∧ nats.length ≠ ids.length) ∨ ((K : Int) = 6 ∧ ids.length = 0))) ↔
      ((0 ≤ a ∧ a ≤ kA K) ∧ (0 ≤ b ∧ b ≤ kB K) ∧ (0 ≤ c ∧ c ≤ kC K)) ∧ (K = 5 → ids.length = nats.length) ∧ (kIl K ≤ ids.length ∧ ids.length ≤ kIm K) ∧ (rows.length ≤ kRm K) ∧ (kNl K ≤ nats.length ∧ nats.length ≤ kNm K) := by
    generalize ids.length = L1
    generalize rows.length = L2
    generalize nats.length = L3
    clear hx
    rcases hK with rfl | rfl | rfl | rfl | rfl | rfl | rfl | rfl | rfl | rfl | rfl <;> simp [numsOf, kA, kB, kC, kIl, kIm, kRm, kNl, kNm] <;> omega
  constructor
  · intro r
    obtain ⟨y1, y2⟩ := hx.2 (step.1 ⟨r.p1, r.p2, r.p3, r.p4, r.p5⟩)
    exact ⟨y1, y2, r.p6, fun i hi => ⟨(r.p7 i hi).1, (r.p7 i hi).2.1⟩, fun i hi h0 => (r.p7 i hi).2.2 h0, r.p8⟩
  · rintro ⟨y1, y2, y3, y4, y5, y6⟩
    obtain ⟨p1, p2, p3, p4, p5⟩ := step.2 (hx.1 ⟨y1, y2⟩)
    exact ⟨p1, p2, p3, p4, p5, y3, fun i hi => ⟨(y4 i hi).1, (y4 i hi).2, fun h0 => y5 i hi h0⟩, y6⟩
/-- A message's lists lie in memory. -/
structure Msg3 (w : World) (pi : Option Addr) (li ci : Nat) (pr : Option Addr) (lr cr : Nat) (pn : Option Addr) (ln cn : Nat) (ids rows : List Int) (nats : List (List Int)) : Prop where
  ids : Lsts w pi li ci ids
  rows : Lsts w pr lr cr rows
  nats : NRow w pn ln cn nats
theorem Msg3.below {w w' : World} {pi pr pn : Option Addr} {li ci lr cr ln cn : Nat} {ids rows : List Int} {nats : List (List Int)} (h : Msg3 w pi li ci pr lr cr pn ln cn ids rows nats) (hb : Below w.heap.size w w') : Msg3 w' pi li ci pr lr cr pn ln cn ids rows nats := ⟨h.ids.below hb, h.rows.below hb, h.nats.below hb⟩
theorem MsgIn.three {w : World} {k a b c : Int} {pi pr pn : Option Addr} {li ci lr cr ln cn : Nat} {ids rows : List Int} {nats : List (List Int)} (h : MsgIn w k a b c pi li ci pr lr cr pn ln cn ids rows nats) : Msg3 w pi li ci pr lr cr pn ln cn ids rows nats := ⟨h.ids, h.rows, h.nats⟩
set_option maxRecDepth 100000 in
set_option maxHeartbeats 6400000 in
theorem x12right_any (k a b c : Int) (pi : Option Addr) (li ci : Nat) (pr : Option Addr) (lr cr : Nat) (pn : Option Addr) (ln cn : Nat) (ids rows : List Int) (nats : List (List Int)) (w : World) (H : Msg3 w pi li ci pr lr cr pn ln cn ids rows nats) :
    Calls Try.prog 9 #[.agg #[.int .i64 k, .int .i64 a, .int .i64 b, .int .i64 c, .slice pi li ci, .slice pr lr cr, .slice pn ln cn]] w fun e w' => RgtT k a b c ids rows nats w e w' := by
  have hV := balloc w (.cells #[.int .i64 k, .int .i64 a, .int .i64 b, .int .i64 c, .slice pi li ci, .slice pr lr cr, .slice pn ln cn] 25)
  have hC := MsgAt.new w k a b c pi pr pn li ci lr cr ln cn
  obtain ⟨V, hVe⟩ : ∃ V, V = w.alloc (.cells #[.int .i64 k, .int .i64 a, .int .i64 b, .int .i64 c, .slice pi li ci, .slice pr lr cr, .slice pn ln cn] 25) := ⟨_, rfl⟩
  rw [← hVe] at hV hC
  have HVe : Hid (V = w.alloc (.cells #[.int .i64 k, .int .i64 a, .int .i64 b, .int .i64 c, .slice pi li ci, .slice pr lr cr, .slice pn ln cn] 25)) := hVe
  replace H := H.below hV
  obtain ⟨G, hG⟩ : ∃ G, G = w.heap.size := ⟨_, rfl⟩
  rw [← hG] at hC
  have HG : Hid (G = w.heap.size) := hG
  clear hVe hG
  obtain ⟨⟨c0, c1, c2, c3, c4, c5, c6⟩, -⟩ := hC.cells
  by_cases hk : k < 1 ∨ 11 < k
  · have HF : Hid (¬ RightM k a b c ids rows nats) := fun r => r.p1 (by omega)
    have HO := (show Hid _ from x12no_any k a b c pi li ci pr lr cr pn ln cn V hk)
    clear H hk
    go_enter Try.func9, Try.ntmps9
    go_upto_region 1 with fail
    rw [← HVe.out, ← HG.out]
    go_wp2_with fail
    refine Calls.mono HO.out ?_
    rintro e w1 ⟨rfl, hb1⟩
    have hB1 := bthen hV hb1
    have b2 := balloc w1 (.cells #[.int .i64 0, .int .i64 0, .int .i64 0, .int .i64 0, .int .i64 0, .int .i64 0, .int .i64 0, .int .i64 0, .int .i64 0, .bool false] 39)
    have HB := (show Hid _ from bthen hB1 b2)
    clear c0 c1 c2 c3 c4 c5 c6 hC hV hb1 hB1 b2 HO
    go_wp2_with fail
    go_ret
    exact ⟨false, rfl, ⟨fun e => (by cases e), fun e => absurd e HF.out⟩, HB.out⟩
  · obtain ⟨K, rfl⟩ : ∃ K : Nat, k = (K : Int) := ⟨k.toNat, by omega⟩
    have hk1 : 1 ≤ K := by omega
    have hk2 : K ≤ 11 := by omega
    have hrk := right_kind (a := a) (b := b) (c := c) (ids := ids) (rows := rows) (nats := nats) hk1 hk2
    obtain ⟨r1, hr1⟩ : ∃ r1, r1 = (upB a (kA K) && upB b (kB K) && upB c (kC K)) := ⟨_, rfl⟩
    obtain ⟨r2, hr2⟩ : ∃ r2, r2 = (!(kP K && (li != ln)) && (inB (kIl K) (kIm K) li && inB 0 (kRm K) lr && inB (kNl K) (kNm K) ln)) := ⟨_, rfl⟩
    rw [H.ids.hlen, H.rows.hlen, H.nats.hlen, ← hr1, ← hr2] at hrk
    have HRK := (show Hid _ from hrk)
    have HO := (show Hid _ from x12of_any K a b c pi li ci pr lr cr pn ln cn V hk1 hk2)
    have H1 : Hid (∀ w : World, Calls Try.prog 17 #[.agg #[.int .i64 (kA K), .int .i64 (kB K), .int .i64 (kC K), .int .i64 (kIl K), .int .i64 (kIm K), .int .i64 0, .int .i64 (kRm K), .int .i64 (kNl K), .int .i64 (kNm K), .bool (kP K)], .agg #[.int .i64 (K : Int), .int .i64 a, .int .i64 b, .int .i64 c, .slice pi li ci, .slice pr lr cr, .slice pn ln cn]] w fun e w' => e = .returned (.bool r1) ∧ Below w.heap.size w w') := by
      rw [hr1]
      exact x12hn_any (kA K) (kB K) (kC K) (kIl K) (kIm K) 0 (kRm K) (kNl K) (kNm K) (kP K) (K : Int) a b c pi li ci pr lr cr pn ln cn
    have H2 : Hid (∀ w : World, Calls Try.prog 18 #[.agg #[.int .i64 (kA K), .int .i64 (kB K), .int .i64 (kC K), .int .i64 (kIl K), .int .i64 (kIm K), .int .i64 0, .int .i64 (kRm K), .int .i64 (kNl K), .int .i64 (kNm K), .bool (kP K)], .agg #[.int .i64 (K : Int), .int .i64 a, .int .i64 b, .int .i64 c, .slice pi li ci, .slice pr lr cr, .slice pn ln cn]] w fun e w' => e = .returned (.bool r2) ∧ Below w.heap.size w w') := by
      rw [hr2]
      exact x12hl_any (kA K) (kB K) (kC K) (kIl K) (kIm K) 0 (kRm K) (kNl K) (kNm K) (kP K) (K : Int) a b c pi li ci pr lr cr pn ln cn
    have HLn : Hid (ids.length = li ∧ rows.length = lr ∧ nats.length = ln) := ⟨H.ids.hlen, H.rows.hlen, H.nats.hlen⟩
    unfold kindR at HO
    clear hk hk1 hk2 hrk hr1 hr2
    go_enter Try.func9, Try.ntmps9
    go_upto_region 1 with fail
    rw [← HVe.out, ← HG.out]
    go_upto_region 2 with fail
    refine Calls.mono HO.out ?_
    rintro e w1 ⟨rfl, hb1⟩
    have hB1 := bthen hV hb1
    replace H := H.below hb1
    replace hC := hC.kept (hb1.block _ hC.lt)
    have hb2 := balloc w1 (.cells #[.int .i64 (kA K), .int .i64 (kB K), .int .i64 (kC K), .int .i64 (kIl K), .int .i64 (kIm K), .int .i64 0, .int .i64 (kRm K), .int .i64 (kNl K), .int .i64 (kNm K), .bool (kP K)] 39)
    have hK : KAt (w1.alloc (.cells #[.int .i64 (kA K), .int .i64 (kB K), .int .i64 (kC K), .int .i64 (kIl K), .int .i64 (kIm K), .int .i64 0, .int .i64 (kRm K), .int .i64 (kNl K), .int .i64 (kNm K), .bool (kP K)] 39)) w1.heap.size (kA K) (kB K) (kC K) (kIl K) (kIm K) 0 (kRm K) (kNl K) (kNm K) (kP K) := heap_alloc_new w1 _
    have hB2 := bthen hB1 hb2
    replace H := H.below hb2
    replace hC := hC.kept (hb2.block _ hC.lt)
    clear c0 c1 c2 c3 c4 c5 c6 hV hb1 hB1 hb2 HO
    obtain ⟨⟨c0, c1, c2, c3, c4, c5, c6⟩, -⟩ := hC.cells
    obtain ⟨⟨k0, k1, k2, k3, k4, k5, k6, k7, k8, k9⟩, -⟩ := cells10 hK
    go_wp2_with fail
    refine Calls.mono (H1.out _) ?_
    rintro e w3 ⟨rfl, hb3⟩
    obtain ⟨g, hg⟩ : ∃ g, g = w1.heap.size := ⟨_, rfl⟩
    rw [← hg] at hK
    rw [← hg]
    clear hg
    have hB3 := bthen hB2 hb3
    replace H := H.below hb3
    replace hC := hC.kept (hb3.block _ hC.lt)
    replace hK := hK.below hb3
    clear hb3 hB2 c0 c1 c2 c3 c4 c5 c6 k0 k1 k2 k3 k4 k5 k6 k7 k8 k9
    obtain ⟨⟨c0, c1, c2, c3, c4, c5, c6⟩, -⟩ := hC.cells
    obtain ⟨⟨k0, k1, k2, k3, k4, k5, k6, k7, k8, k9⟩, -⟩ := cells10 hK
    clear H1
    cases r1 with
    | false =>
      clear H2
      have HF : Hid (¬ RightM (K : Int) a b c ids rows nats) := fun r => by
        have q := HRK.out.1 r
        cases q.1
      clear HRK H hC hK c0 c1 c2 c3 c4 c5 c6 k0 k1 k2 k3 k4 k5 k6 k7 k8 k9
      go_wp2
      go_ret
      exact ⟨false, rfl, ⟨fun e => (by cases e), fun e => absurd e HF.out⟩, hB3⟩
    | true =>
      go_wp2_with fail
      refine Calls.mono (H2.out _) ?_
      rintro e w4 ⟨rfl, hb4⟩
      have hB4 := bthen hB3 hb4
      replace H := H.below hb4
      replace hC := hC.kept (hb4.block _ hC.lt)
      replace hK := hK.below hb4
      clear hb4 hB3 c0 c1 c2 c3 c4 c5 c6 k0 k1 k2 k3 k4 k5 k6 k7 k8 k9
      obtain ⟨⟨c0, c1, c2, c3, c4, c5, c6⟩, -⟩ := hC.cells
      obtain ⟨⟨k0, k1, k2, k3, k4, k5, k6, k7, k8, k9⟩, -⟩ := cells10 hK
      clear H2
      cases r2 with
      | false =>
        have HF : Hid (¬ RightM (K : Int) a b c ids rows nats) := fun r => by
          have q := HRK.out.1 r
          cases q.2.1
        clear HRK H hC hK c0 c1 c2 c3 c4 c5 c6 k0 k1 k2 k3 k4 k5 k6 k7 k8 k9
        go_wp2
        go_ret
        exact ⟨false, rfl, ⟨fun e => (by cases e), fun e => absurd e HF.out⟩, hB4⟩
      | true =>
        go_wp2_with fail
        refine (x12nums_any pi li ci ids _ H.ids).mono ?_
        rintro e w5 ⟨r3, rfl, hr3, rfl⟩
        rw [HLn.out.1] at hr3
        have HR3 := (show Hid _ from hr3)
        clear hr3
        cases r3 with
        | false =>
          have HF : Hid (¬ RightM (K : Int) a b c ids rows nats) := fun r => by
            have q := HRK.out.1 r
            cases HR3.out.2 q.2.2.1
          clear HRK H hC hK c0 c1 c2 c3 c4 c5 c6 k0 k1 k2 k3 k4 k5 k6 k7 k8 k9
          go_wp2
          go_ret
          exact ⟨false, rfl, ⟨fun e => (by cases e), fun e => absurd e HF.out⟩, hB4⟩
        | true =>
          go_wp2_with fail
          refine (x12nums_any pr lr cr rows _ H.rows).mono ?_
          rintro e w5 ⟨r4, rfl, hr4, rfl⟩
          rw [HLn.out.2.1] at hr4
          have HR4 := (show Hid _ from hr4)
          clear hr4
          cases r4 with
          | false =>
            have HF : Hid (¬ RightM (K : Int) a b c ids rows nats) := fun r => by
              have q := HRK.out.1 r
              cases HR4.out.2 q.2.2.2.1
            clear HRK H hC hK c0 c1 c2 c3 c4 c5 c6 k0 k1 k2 k3 k4 k5 k6 k7 k8 k9
            go_wp2
            go_ret
            exact ⟨false, rfl, ⟨fun e => (by cases e), fun e => absurd e HF.out⟩, hB4⟩
          | true =>
            go_wp2_with fail
            refine (x12rise_any pr lr cr rows _ H.rows).mono ?_
            rintro e w5 ⟨r5, rfl, hr5, hb5⟩
            rw [HLn.out.2.1] at hr5
            have HR5 := (show Hid _ from hr5)
            clear hr5
            have hB5 := bthen hB4 hb5
            replace H := H.below hb5
            replace hC := hC.kept (hb5.block _ hC.lt)
            replace hK := hK.below hb5
            clear hb5 hB4 c0 c1 c2 c3 c4 c5 c6 k0 k1 k2 k3 k4 k5 k6 k7 k8 k9
            obtain ⟨⟨c0, c1, c2, c3, c4, c5, c6⟩, -⟩ := hC.cells
            obtain ⟨⟨k0, k1, k2, k3, k4, k5, k6, k7, k8, k9⟩, -⟩ := cells10 hK
            cases r5 with
            | false =>
              have HF : Hid (¬ RightM (K : Int) a b c ids rows nats) := fun r => by
                have q := HRK.out.1 r
                cases HR5.out.2 q.2.2.2.2.1
              clear HRK H hC hK c0 c1 c2 c3 c4 c5 c6 k0 k1 k2 k3 k4 k5 k6 k7 k8 k9
              go_wp2
              go_ret
              exact ⟨false, rfl, ⟨fun e => (by cases e), fun e => absurd e HF.out⟩, hB5⟩
            | true =>
              go_wp2_with fail
              refine (x12nats_any pn ln cn nats _ H.nats).mono ?_
              rintro e w6 ⟨r6, rfl, hr6, rfl⟩
              rw [HLn.out.2.2] at hr6
              have HR6 := (show Hid _ from hr6)
              clear hr6
              have HF : Hid (r6 = true ↔ RightM (K : Int) a b c ids rows nats) := by
                show _ ↔ _
                rw [HRK.out, HR6.out]
                have q3 := HR3.out.1 (by first | rfl | trivial)
                have q4 := HR4.out.1 (by first | rfl | trivial)
                have q5 := HR5.out.1 (by first | rfl | trivial)
                exact ⟨fun q => ⟨by first | rfl | trivial, by first | rfl | trivial, q3, q4, q5, q⟩, fun q => q.2.2.2.2.2⟩
              clear HRK HR3 HR4 HR5 HR6 HLn H hC hK c0 c1 c2 c3 c4 c5 c6 k0 k1 k2 k3 k4 k5 k6 k7 k8 k9
              go_wp2
              go_ret
              exact ⟨r6, by simp, HF.out, hB5⟩
theorem rgt_ok12 : RgtOk12 := fun k a b c pi li ci pr lr cr pn ln cn ids rows nats w H => x12right_any k a b c pi li ci pr lr cr pn ln cn ids rows nats w H.three
end Go.Proofs.Ytnbdbahfekneoaa
