/-
  The contract of nat.Text: the walk.
-/
import Derived.Test.YtfafbggijhghcabText
namespace Go.Proofs.Ytfafbggijhghcab
open Go.RowKit

theorem wpList_cv (w : World) {ops : Array Oper} {rest : List Oper} {o : Oper} {a : Act} {Q : Exit → Act → World → Prop} (hg : o.guard = none) (x : Operand) (hop : o.op = Op.convert 41 9 x)
    (sa : Option Addr) (n c : Nat) (bs : List Int) (hx : a.eval x = .slice sa n c) (hb : Byts w sa n c bs) (hK : wpList Try.prog ops Q rest (a.put o.dst (.string (strOf bs))) w) : wpList Try.prog ops Q (o :: rest) a w := by
  refine wpList_plain hg fun K hK' => ?_
  have hrun := conv_any hb
  unfold Oper.wp
  simp only [execOp, hop, hx]
  rw [Sem.run_bind, hrun]
  exact hK' _ _ hK

theorem pow_le_left {a b : Int} (h0 : 0 ≤ a) (h : a ≤ b) : ∀ n : Nat, 0 ≤ a ^ n ∧ a ^ n ≤ b ^ n
  | 0 => by simp
  | n + 1 => by
    have ih := pow_le_left h0 h n
    rw [Int.pow_succ, Int.pow_succ]
    exact ⟨Int.mul_nonneg ih.1 h0, Int.mul_le_mul ih.2 h h0 (Int.le_trans ih.1 ih.2)⟩

theorem big_ten : (18446744073709551616 : Int) ^ 64 < 10 ^ 1234 := by
  have h1 := (pow_le_left (a := 2 ^ 93) (b := 10 ^ 28) (by decide) (by decide) 44).2
  rw [← Int.pow_mul, ← Int.pow_mul] at h1
  have e1 : (18446744073709551616 : Int) ^ 64 = 2 ^ (93 * 44) * 2 ^ 4 := by rw [pow64, ← Int.pow_add]
  have e2 : (10 : Int) ^ 1234 = 10 ^ (28 * 44) * 10 ^ 2 := by rw [← Int.pow_add]
  have hp := pow_pos' (B := 2) (by decide) (93 * 44)
  rw [e1, e2]
  generalize (2 : Int) ^ (93 * 44) = x at *
  generalize (10 : Int) ^ (28 * 44) = y at *
  have e3 : (2 : Int) ^ 4 = 16 := by decide
  have e4 : (10 : Int) ^ 2 = 100 := by decide
  rw [e3, e4]; omega

theorem tx_few {E : Int} {ds : List Int} {v : Int} (hE : E < 18446744073709551616 ^ 64) (hd : Digs 10 ds) (hv : val 10 ds + 10 ^ ds.length * v = E) (h1 : 1 ≤ v) : ds.length ≤ 1233 := by
  have h2 := val_nonneg (B := 10) (by decide) hd
  have h3 : (10 : Int) ^ ds.length * 1 ≤ 10 ^ ds.length * v := Int.mul_le_mul_of_nonneg_left h1 (Int.le_of_lt (pow_pos' (by decide) _))
  have h4 := big_ten
  by_cases h : ds.length ≤ 1233
  · exact h
  · have := pow_mono (B := 10) (by decide) (show 1234 ≤ ds.length by omega)
    omega

theorem strOf_size (bs : List Int) : (strOf bs).size = bs.length := by
  have : ∀ (l : List Int) (r : ByteArray), (l.foldl (fun r n => r.push (UInt8.ofNat n.toNat)) r).size = r.size + l.length := by
    intro l
    induction l with
    | nil => intro r; simp
    | cons x l ih => intro r; rw [List.foldl_cons, ih]; simp [ByteArray.size_push]; omega
  unfold strOf
  rw [this]; simp

def len8 : Value → Nat
  | .slice _ l _ => l
  | _ => 0

set_option maxHeartbeats 3200000 in
theorem text_any (a : Option Addr) (la ca : Nat) (zs : List Int) (w : World) (h : Nums w a la ca zs) :
    Calls Try.prog 23 #[.slice a la ca] w fun e w' => ∃ S, e = .returned (.string S) ∧ ResText zs S ∧ S.size ≤ 2000 ∧ Below w.heap.size w w' := by
  have hzl := h.hlen
  have hzd := h.digs
  cases hr : rightB zs with
  | false =>
    clear hzl
    go_enter Try.func23, Try.ntmps23
    go_wp2_with fail
    refine (right_any _ _ _ _ _ h).mono ?_
    rintro e w1 ⟨rfl, rfl⟩
    rw [hr]
    go_wp2_with fail
    go_ret
    exact ⟨_, rfl, by simp [ResText, hr], by decide, Below.refl _ _⟩
  | true =>
  by_cases h0 : la = 0
  · have HR : Hid (ResText zs ⟨#[48]⟩) := (show ResText zs ⟨#[48]⟩ by unfold ResText; rw [if_pos hr, if_pos (by omega)])
    clear hzl
    subst h0
    go_enter Try.func23, Try.ntmps23
    go_wp2_with fail
    refine (right_any _ _ _ _ _ h).mono ?_
    rintro e w1 ⟨rfl, rfl⟩
    rw [hr]
    go_wp2_with fail
    go_ret
    exact ⟨_, rfl, HR.out, by decide, Below.refl _ _⟩
  · have hla : la ≤ 64 := by have := right_len hr; omega
    have hb0 : ((la : Int) == 0) = false := by simp; omega
    obtain ⟨E, hE⟩ : ∃ E, E = val 18446744073709551616 zs := ⟨_, rfl⟩
    have hE64 : E < 18446744073709551616 ^ 64 := by rw [hE]; exact val_lt_pow (by decide) hzd (right_len hr)
    have hEp : 1 ≤ E := by rw [hE]; have := right_pos hzd hr (by omega); omega
    have HE : Hid (E = val 18446744073709551616 zs ∧ E < 18446744073709551616 ^ 64 ∧ 1 ≤ E ∧ zs.length ≠ 0) := ⟨hE, hE64, hEp, by omega⟩
    have HL : Hid (zs.length = la) := hzl
    clear hzl hE hE64 hEp
    go_enter Try.func23, Try.ntmps23
    go_wp2_with fail
    refine (right_any _ _ _ _ _ h).mono ?_
    rintro e w0 ⟨rfl, rfl⟩
    rw [hr]
    go_wp2_with fail
    refine (clone_any _ _ _ _ _ h (by omega)).mono ?_
    rintro e w1 ⟨da, dn, dc, rfl, hd, hfr, hb1⟩
    obtain rfl : la = dn := by have := hd.hlen; have := HL.out; omega
    obtain ⟨g1, rfl, hg1, hblk⟩ := hfr (by omega)
    have hg1b : g1 < w1.heap.size := hblk.lt
    clear hfr
    go_wp2
    go_loopw [3, 4] (fun lv dv wr => ∃ (la' : Option Addr) (k c' : Nat) (M ds : List Int), lv = .slice la' k c' ∧ (0 < k → la' = some ⟨g1, 0, none⟩) ∧ Nums wr la' k c' (M.take k) ∧ Blk wr g1 M ∧ M.length = la ∧ k ≤ la ∧ Digs 18446744073709551616 M ∧ Hid (Top (M.take k)) ∧
        BOwn wr w1.heap.size dv (sg10 ds) ∧ Digs 10 ds ∧ Hid (val 10 ds + 10 ^ ds.length * val 18446744073709551616 (M.take k) = E) ∧ Hid (ds.length ≤ 1300) ∧ w1.heap.size ≤ wr.heap.size ∧ Below w0.heap.size w0 wr) (fun _ dv _ => 4000 - len8 dv)
    case atStart => exact ⟨_, _, _, zs, [], rfl, fun _ => rfl, by rw [List.take_of_length_le (by have := HL.out; omega)]; exact hd, hblk, HL.out, Nat.le_refl _, hzd, by show Top _; rw [List.take_of_length_le (by have := HL.out; omega)]; exact right_top hr, BOwn.nil _ _, Digs.nil _, by show _ = _; rw [List.take_of_length_le (by have := HL.out; omega)]; simp [val, HE.out.1], by show _ ≤ _; simp, Nat.le_refl _, hb1⟩
    case round =>
      obtain ⟨la', k, c', M, ds, rfl, hs, hn, hbM, hMl, hkl, hMd, HT, hown, hdd, HV, HLen, hsz, hbr⟩ := hrel
      clear hd hblk
      by_cases hk : 0 < k
      · have hki : (0 : Int) < (k : Int) := by omega
        have hdl : ds.length ≤ 1233 := tx_few HE.out.2.1 hdd HV.out (by
          have h1 := val_ge (B := 18446744073709551616) (by decide) (hMd.take k) HT.out (by intro e; have e2 := congrArg List.length e; rw [List.length_take, hMl, List.length_nil] at e2; omega)
          have h2 := pow_pos' (B := 18446744073709551616) (by decide) ((M.take k).length - 1)
          omega)
        obtain ⟨oa, oc, rfl, -⟩ := hown.byts (sg10_digs hdd)
        obtain rfl := hs hk
        have hcap := hn.hcap
        have hmax := hn.hmax
        go_wp2_with fail
        refine (divideBy_any _ g1 k c' M 10000000000000000000 wr (fun _ => rfl) (fun _ => hbM) hMd (by omega) (by omega) (by decide)).mono ?_
        rintro e w2 ⟨M2, r, rfl, hb2, hM2d, hM2l, hM2s, hrb, hdv, hg2⟩
        have hbM2 := hb2 hk
        have hnum : Nums w2 (some ⟨g1, 0, none⟩) k c' (M2.take k) := ⟨by simp; omega, hcap, hmax, fun _ => ⟨g1, 0, rfl, fun i hi => by rw [Nat.zero_add, hbM2.cell (by omega)]; simp [List.getD, hi]⟩, hM2d.take k⟩
        have HDv : Hid (val 18446744073709551616 (M.take k) = 10000000000000000000 * val 18446744073709551616 (M2.take k) + r) := by
          show _ = _
          rw [← vs_val, ← vs_val]; exact hdv
        have hown2 := hown.kept hg2 hg1b
        have hbr2 := hbr.trans (below_of_grown hg2 hg1 hbr.size)
        have hsz2 := Nat.le_trans hsz hg2.size
        clear hdv hb2 hM2s hown hg2 hbM hn hbr
        go_wp2_with fail
        refine (trimmed_any _ _ _ _ _ hnum).mono ?_
        rintro e w3 ⟨ta, k2, tc, rfl, htr, hk2, rfl⟩
        have hk2l : k2 ≤ k := by have := htr.le; simp at this; omega
        have etk : (M2.take k).take k2 = M2.take k2 := by rw [List.take_take, Nat.min_eq_left hk2l]
        have hn2 : Nums w3 ta k2 tc (M2.take k2) := by
          rcases hk2 with ⟨rfl, rfl, rfl⟩ | ⟨_, rfl, rfl⟩
          · simpa using Nums.nil w3
          · rw [← etk]; exact hnum.take hk2l
        have hs2 : 0 < k2 → ta = some ⟨g1, 0, none⟩ := fun hp => by rcases hk2 with ⟨rfl, _, _⟩ | ⟨_, rfl, _⟩; exact absurd hp (Nat.lt_irrefl _); rfl
        have HQ : Hid (val 18446744073709551616 (M2.take k2) = val 18446744073709551616 (M2.take k) ∧ Top (M2.take k2)) := by
          have a1 := htr.val (B := 18446744073709551616)
          have a2 := htr.Top
          rw [etk] at a1 a2
          exact ⟨a1, a2⟩
        clear htr hk2 hnum etk
        obtain ⟨q, hq⟩ : ∃ q, q = val 18446744073709551616 (M2.take k2) := ⟨_, rfl⟩
        have HV2 : Hid (val 10 ds + 10 ^ ds.length * (r + 10000000000000000000 * q / 10 ^ 0) = E) := by
          show _ = _
          rw [Int.pow_zero, Int.ediv_one, hq, HQ.out.1, Int.add_comm r, ← HDv.out]; exact HV.out
        have Hq : Hid (q = val 18446744073709551616 (M2.take k2)) := hq
        clear hq HV HDv
        go_wp2
        go_loopw [4, 5, 21] (fun dv gv tv wq => ∃ (t : Nat) (es : List Int) (gr : Int), t ≤ 19 ∧ tv = .int .i64 t ∧ gv = .int .u64 gr ∧ (0 ≤ gr ∧ gr < 10000000000000000000) ∧ BOwn wq w1.heap.size dv (sg10 es) ∧ Digs 10 es ∧ Hid (es.length = ds.length + t ∧ val 10 es + 10 ^ es.length * (gr + 10000000000000000000 * q / 10 ^ t) = E ∧ gr < 10 ^ (19 - t)) ∧ Below w1.heap.size w3 wq) (fun _ _ tv _ => 19 - (intOf tv).toNat)
        case atStart => exact ⟨0, ds, r, by omega, rfl, rfl, hrb, hown2, hdd, ⟨by omega, HV2.out, by have := hrb.2; show r < 10 ^ 19; rw [show (10 : Int) ^ 19 = 10000000000000000000 by decide]; exact this⟩, Below.refl _ _⟩
        case round =>
          obtain ⟨t, es, gr, ht, rfl, rfl, hgb, howq, hed, HX, hbq⟩ := hrel
          clear hown2 HV2
          have hel : (sg10 es).length < 1000000 := by rw [sg10_len]; have := HX.out.1; omega
          by_cases ht19 : t < 19
          · have hti : (t : Int) < 19 := by omega
            have bm : 0 ≤ gr % 10 ∧ gr % 10 < 10 := by omega
            have HN : Hid (Digs 10 (es ++ [gr % 10]) ∧ (es ++ [gr % 10]).length = ds.length + (t + 1) ∧ val 10 (es ++ [gr % 10]) + 10 ^ (es ++ [gr % 10]).length * (gr / 10 + 10000000000000000000 * q / 10 ^ (t + 1)) = E ∧ gr / 10 < 10 ^ (19 - (t + 1))) := by
              have R := tx_digit hed HX.out.2.1 (tx_pow (q := q) ht19)
              rw [tx_next] at R
              refine ⟨R.1, by have := HX.out.1; simp; omega, R.2, ?_⟩
              have e : (10 : Int) ^ (19 - t) = 10 ^ (19 - (t + 1)) * 10 := by rw [← Int.pow_succ]; congr 1; omega
              have := HX.out.2.2
              rw [e] at this
              generalize (10 : Int) ^ (19 - (t + 1)) = P at this ⊢
              omega
            clear HX
            go_wp2_with (at_builtin; refine wpList_appB1 _ rfl _ _ 41 rfl Try.underlying41 w1.heap.size _ (sg10 es) rfl (howq.alloc _) ⟨wr.heap.size, 0, none⟩ (48 + gr % 10) rfl ?c1 hel w3 ?c2 ?c3 ?_)
            case c1 => simp
            case c2 => have := hbq.size; simp; omega
            case c3 => exact hbq.alloc (by have := hbq.size; omega) _
            intro v' w5 hown5 hb5
            rw [sg10_snoc] at hown5
            clear howq hbq
            go_wp2
            go_roundw
            case rel => exact ⟨t + 1, _, gr / 10, by omega, by go_num, rfl, by omega, hown5, HN.out.1, HN.out.2, hb5⟩
            case measure => simp [intOf]; omega
          · obtain rfl : t = 19 := by omega
            have HF : Hid (val 10 es + 10 ^ es.length * val 18446744073709551616 (M2.take k2) = E ∧ es.length = ds.length + 19) := by
              refine ⟨?_, HX.out.1⟩
              have h1 := HX.out.2.1
              have h2 := HX.out.2.2
              rw [show (19 : Nat) - 19 = 0 by omega, Int.pow_zero] at h2
              rw [tx_end, show gr = 0 by omega, Int.zero_add, Hq.out] at h1
              exact h1
            have hn3 : Nums wr ta k2 tc (M2.take k2) := ⟨hn2.hlen, hn2.hcap, hn2.hmax, fun hp => by
              obtain ⟨b, o, e1, hc⟩ := hn2.cells hp
              have e2 := hs2 hp
              rw [e1] at e2
              cases e2
              exact ⟨g1, 0, e1, fun i hi => (hbq.cell (p := ⟨g1, 0 + i, none⟩) hg1b).trans (hc i hi)⟩, hn2.word⟩
            have hbM3 := hbM2.below hbq hg1b
            have hbr3 := hbr2.trans (hbq.mono (by have := hb1.size; omega))
            clear HX hbM2 hn2
            go_wp2
            go_roundw
            case rel => exact ⟨_, _, _, M2, es, rfl, hs2, hn3, hbM3, by omega, by omega, hM2d, HQ.out.2, howq, hed, HF.out.1, by have := HF.out.2; show _ ≤ _; omega, Nat.le_trans hsz2 hbq.size, hbr3⟩
            case measure =>
              obtain ⟨ob, oc2, e, -⟩ := howq.byts (sg10_digs hed)
              subst e
              have a0 := HF.out.2
              have a1 := sg10_len es
              have a2 := sg10_len ds
              simp only [len8]
              simp
              omega
      · obtain rfl : k = 0 := by omega
        have HV0 : Hid (val 10 ds = E) := by have := HV.out; rw [List.take_zero, val_nil] at this; show _ = _; omega
        have hdp : 0 < ds.length := by
          rcases Nat.eq_zero_or_pos ds.length with e | e
          · exfalso
            have h1 := HV0.out
            rw [List.eq_nil_of_length_eq_zero e, val_nil] at h1
            have := HE.out.2.2.1
            omega
          · exact e
        obtain ⟨g2, cap, rfl, hg2, hbb, hcap2, hmax2⟩ := hown.blk (by rw [sg10_len]; exact hdp)
        have hsl := sg10_len ds
        have hlen13 := HLen.out
        obtain ⟨n, hn0⟩ : ∃ n, n = (sg10 ds).length := ⟨_, rfl⟩
        rw [← hn0] at hcap2 hsl
        rw [← hn0]
        have HN0 : Hid (n = (sg10 ds).length) := hn0
        clear hn0 hown hn hs HV HT hbM
        unfold maxLen at hmax2
        go_wp2
        go_loopw [4] (fun dv wq => ∃ m : Nat, 0 < m ∧ m ≤ n ∧ dv = .slice (some ⟨g2, 0, none⟩) m cap ∧ Hid (∀ j, m ≤ j → j < ds.length → ds.getD j 0 = 0) ∧ wr = wq) (fun dv _ => len8 dv)
        case atStart => exact ⟨n, by omega, Nat.le_refl _, rfl, fun j h1 h2 => by omega, rfl⟩
        case round =>
          obtain ⟨m, hm0, hmn, rfl, HZ, rfl⟩ := hrel
          obtain ⟨x, hx⟩ : ∃ x, x = ds.getD (m - 1) 0 := ⟨_, rfl⟩
          have bx := hdd.getD (by decide) (m - 1)
          rw [← hx] at bx
          have hc1 := hbb.cell (j := m - 1) (by have := HN0.out; omega)
          rw [sg10_getD (by omega), ← hx] at hc1
          have hm1 : ((m : Int) - 1) < (m : Int) := by omega
          have hm2 : 0 ≤ ((m : Int) - 1) := by omega
          have HXd : Hid (x = ds.getD (m - 1) 0) := hx
          clear hx
          by_cases hx0 : x = 0
          · subst hx0
            have HZ2 : Hid (∀ j, m - 1 ≤ j → j < ds.length → ds.getD j 0 = 0) := fun j h1 h2 => by
              by_cases e : j = m - 1
              · subst e; exact HXd.out.symm
              · exact HZ.out j (by omega) h2
            have hmm : 0 < m - 1 := by
              rcases Nat.eq_zero_or_pos (m - 1) with e | e
              · exfalso
                have h1 := HV0.out
                rw [val_zeros 10 (zs := ds) (fun v hv => by
                  obtain ⟨i, hi, rfl⟩ := List.getElem_of_mem hv
                  have := HZ2.out i (by omega) hi
                  simpa [List.getD, hi] using this)] at h1
                have := HE.out.2.2.1
                omega
              · exact e
            have hcm : m ≤ cap := by omega
            clear HZ HXd
            go_wp2
            go_roundw
            case rel => exact ⟨m - 1, hmm, by omega, by go_num, HZ2, by first | rfl | trivial⟩
            case measure => simp [len8]; omega
          · have hne : (48 + x == 48) = false := by simp; omega
            have HTr : Hid (Trim ds m) := ⟨by omega, fun j h1 h2 => HZ.out j h1 h2, .inr (by rw [← HXd.out]; exact hx0)⟩
            clear HZ HXd
            go_wp2_with fail
            refine (rev_any g2 m cap (sg10 ds) _ hbb (by have := HN0.out; omega) (by omega)).mono ?_
            rintro e w6 ⟨M6, rfl, hb6, hl6, hM6, hg6⟩
            have hby : Byts w6 (some ⟨g2, 0, none⟩) m cap (M6.take m) := by
              have := HN0.out
              refine ⟨by simp; omega, by omega, by unfold maxLen; omega, fun _ => ⟨g2, 0, rfl, fun i hi => by rw [Nat.zero_add, hb6.cell (by omega)]; simp [List.getD, hi]⟩, fun v hv => ?_⟩
              obtain ⟨i, hi, rfl⟩ := List.getElem_of_mem hv
              have hi2 : i < m ∧ i < M6.length := by simp at hi; omega
              have e1 := hM6 i hi2.1
              have e2 := (sg10_digs hdd).getD (by decide) (m - 1 - i)
              rw [← e1] at e2
              simpa [List.getD, show i < M6.length by omega] using e2
            have HRt : Hid (ResText zs (strOf (M6.take m))) := by
              rcases tx_last hdd HV0.out HE.out.1.symm hr HE.out.2.2.2 HTr.out hM6 with q | q
              · exact q
              · have := HN0.out; omega
            have hB := hbr.trans (below_of_grown hg6 (by have := hb1.size; omega) hbr.size)
            have hss : (strOf (M6.take m)).size ≤ 2000 := by rw [strOf_size]; simp; omega
            clear hM6 hb6
            go_wp2_with (refine wpList_cv _ rfl _ rfl _ _ _ _ rfl hby ?_)
            go_ret
            exact ⟨_, rfl, HRt.out, hss, hB⟩
end Go.Proofs.Ytfafbggijhghcab
