/-
  The contract of the document's Encode (wire).
-/
import Derived.Test.YtnbdbahfekneoaaR12D
import Derived.Test.YtnbdbahfekneoaaW12Enc
import Derived.Laws.NewBlocks
namespace Go.Proofs.Ytnbdbahfekneoaa
open Go.RowKit

theorem Lsts.lit4 (w : World) (x y z u : Int) (h : ∀ v, v ∈ [x, y, z, u] → -9223372036854775808 ≤ v ∧ v < 9223372036854775808) : Lsts (w.alloc (.cells #[.int .i64 x, .int .i64 y, .int .i64 z, .int .i64 u] 3)) (some ⟨w.heap.size, 0, none⟩) 4 4 [x, y, z, u] := by
  refine ⟨rfl, Nat.le_refl _, by unfold maxLen; omega, fun _ => ⟨w.heap.size, 0, rfl, fun i hi => ?_⟩, h⟩
  have : i = 0 ∨ i = 1 ∨ i = 2 ∨ i = 3 := by omega
  rcases this with rfl | rfl | rfl | rfl <;> simp
theorem lst_digs : ∀ {l : List Nat} {ys : List Int}, CodesOf l ys → Digs 256 ys
  | [], ys, h => by
    have e : ys = [] := h
    rw [e]
    intro x hx
    cases hx
  | n :: l, ys, ⟨c, r, h1, h2, e⟩ => by
    rw [e]
    exact h1.digs.app9 (lst_digs h2)
theorem lst_len {l : List Nat} {ys : List Int} (h : IsLst l ys) (hl : l.length ≤ 16384) (hb : ∀ n, n ∈ l → n ≤ 1073741824) : ys.length ≤ 163850 ∧ Digs 256 ys := by
  obtain ⟨c, r, h1, h2, rfl⟩ := h
  have k1 := code_10 h1 (by omega)
  have k2 := codes_len h2 (fun n hn => by have := hb n hn; omega)
  exact ⟨by simp; omega, h1.digs.app9 (lst_digs h2)⟩
theorem blobs_digs : ∀ {l : List (List Int)} {ys : List Int}, BlobsOf l ys → (∀ b, b ∈ l → Digs 256 b) → Digs 256 ys
  | [], ys, h, _ => by
    have e : ys = [] := h
    rw [e]
    intro x hx
    cases hx
  | b :: l, ys, ⟨c, r, h1, h2, e⟩, hb => by
    rw [e]
    exact h1.digs.app9 ((hb b (List.mem_cons_self ..)).app9 (blobs_digs h2 (fun d hd => hb d (List.mem_cons_of_mem _ hd))))

set_option maxRecDepth 20000 in
set_option maxHeartbeats 6400000 in
theorem r12enc_any (k a b c : Int) (pi pr pn : Option Addr) (li ci lr cr ln cn : Nat) (ids rows : List Int) (nats : List (List Int)) (w : World) (hI : Lsts w pi li ci ids) (hR : Lsts w pr lr cr rows) (hN : NRow w pn ln cn nats) :
    Calls Try.prog 12 #[.agg #[.int .i64 k, .int .i64 a, .int .i64 b, .int .i64 c, .slice pi li ci, .slice pr lr cr, .slice pn ln cn]] w fun e w' => WireT k a b c ids rows nats w e w' := by
  have hV := balloc w (.cells #[.int .i64 k, .int .i64 a, .int .i64 b, .int .i64 c, .slice pi li ci, .slice pr lr cr, .slice pn ln cn] 25)
  have c0 : (w.alloc (.cells #[.int .i64 k, .int .i64 a, .int .i64 b, .int .i64 c, .slice pi li ci, .slice pr lr cr, .slice pn ln cn] 25)).cell? ⟨w.heap.size, 0, none⟩ = some (.int .i64 k) := by simp
  have c1 : (w.alloc (.cells #[.int .i64 k, .int .i64 a, .int .i64 b, .int .i64 c, .slice pi li ci, .slice pr lr cr, .slice pn ln cn] 25)).cell? ⟨w.heap.size, 1, none⟩ = some (.int .i64 a) := by simp
  have c2 : (w.alloc (.cells #[.int .i64 k, .int .i64 a, .int .i64 b, .int .i64 c, .slice pi li ci, .slice pr lr cr, .slice pn ln cn] 25)).cell? ⟨w.heap.size, 2, none⟩ = some (.int .i64 b) := by simp
  have c3 : (w.alloc (.cells #[.int .i64 k, .int .i64 a, .int .i64 b, .int .i64 c, .slice pi li ci, .slice pr lr cr, .slice pn ln cn] 25)).cell? ⟨w.heap.size, 3, none⟩ = some (.int .i64 c) := by simp
  have c4 : (w.alloc (.cells #[.int .i64 k, .int .i64 a, .int .i64 b, .int .i64 c, .slice pi li ci, .slice pr lr cr, .slice pn ln cn] 25)).cell? ⟨w.heap.size, 4, none⟩ = some (.slice pi li ci) := by simp
  have c5 : (w.alloc (.cells #[.int .i64 k, .int .i64 a, .int .i64 b, .int .i64 c, .slice pi li ci, .slice pr lr cr, .slice pn ln cn] 25)).cell? ⟨w.heap.size, 5, none⟩ = some (.slice pr lr cr) := by simp
  have c6 : (w.alloc (.cells #[.int .i64 k, .int .i64 a, .int .i64 b, .int .i64 c, .slice pi li ci, .slice pr lr cr, .slice pn ln cn] 25)).cell? ⟨w.heap.size, 6, none⟩ = some (.slice pn ln cn) := by simp
  replace hI := hI.below hV
  replace hR := hR.below hV
  replace hN := hN.below hV
  have e1 := hI.hlen
  have e2 := hR.hlen
  have e3 := hN.hlen
  go_enter Try.func12, Try.ntmps12
  go_wp2_with fail
  refine (r12right_any k a b c pi pr pn li ci lr cr ln cn ids rows nats _ hI hR hN).mono ?_
  rintro e V ⟨r, rfl, hr, hb1⟩
  have hB1 := bthen hV hb1
  replace hI := hI.below hb1
  replace hR := hR.below hb1
  replace hN := hN.below hb1
  replace c0 := bkeep hb1 c0 rfl
  replace c1 := bkeep hb1 c1 rfl
  replace c2 := bkeep hb1 c2 rfl
  replace c3 := bkeep hb1 c3 rfl
  replace c4 := bkeep hb1 c4 rfl
  replace c5 := bkeep hb1 c5 rfl
  replace c6 := bkeep hb1 c6 rfl
  obtain ⟨G, hG⟩ : ∃ G, G = w.heap.size := ⟨_, rfl⟩
  rw [← hG] at c0 c1 c2 c3 c4 c5 c6
  rw [← hG]
  clear hV hb1 hG
  cases r with
  | false =>
    have HF : Hid (ResWire k a b c ids rows nats [] 16) := .inr ⟨fun h => (by have := hr.2 h.1; cases this), rfl, rfl⟩
    clear hI hR hN c0 c1 c2 c3 c4 c5 c6 hr
    go_wp2
    go_ret2
    exact ⟨none, 0, 0, [], 16, rfl, Byts.nil _, HF.out, ⟨fun _ => rfl, fun _ e => (by cases e)⟩, hB1⟩
  | true =>
    have hM := hr.1 rfl
    have HM : Hid (RightM k a b c ids rows nats) := hM
    have p1 := hM.p1
    have p4 := hM.p4
    obtain ⟨K, rfl⟩ : ∃ K : Nat, k = (K : Int) := ⟨k.toNat, by omega⟩
    obtain ⟨A, rfl⟩ : ∃ A : Nat, a = (A : Int) := ⟨a.toNat, by omega⟩
    obtain ⟨B, rfl⟩ : ∃ B : Nat, b = (B : Int) := ⟨b.toNat, by omega⟩
    obtain ⟨C, rfl⟩ : ∃ C : Nat, c = (C : Int) := ⟨c.toNat, by omega⟩
    have hkb : K ≤ 1073741824 ∧ A ≤ 1073741824 ∧ B ≤ 1073741824 ∧ C ≤ 1073741824 := by omega
    have hll : li ≤ 16384 ∧ lr ≤ 16384 ∧ ln ≤ 16384 := by omega
    rw [← nat0_ints hM.p6] at hI
    rw [← nat0_ints (xs := rows) (fun i hi => ⟨(hM.p7 i hi).1, (hM.p7 i hi).2.1⟩)] at hR
    have bI := nat0_le hM.p6
    have bR := nat0_le (xs := rows) (fun i hi => ⟨(hM.p7 i hi).1, (hM.p7 i hi).2.1⟩)
    have HLI : Hid ((nat0 ids).length = li ∧ (nat0 rows).length = lr ∧ nats.length = ln) := ⟨by rw [nat0_len]; exact e1, by rw [nat0_len]; exact e2, e3⟩
    have HBI : Hid ((∀ n, n ∈ nat0 ids → n ≤ 1073741824) ∧ ∀ n, n ∈ nat0 rows → n ≤ 1073741824) := ⟨bI, bR⟩
    have HII : Hid (Lsts V pi li ci (ints (nat0 ids)) ∧ Lsts V pr lr cr (ints (nat0 rows)) ∧ NRow V pn ln cn nats) := ⟨hI, hR, hN⟩
    clear hI hR hN hr hM p1 p4 e1 e2 e3 bI bR
    have hH := Lsts.lit4 V (K : Int) A B C (by intro v hv; simp at hv; omega)
    have hb2 := balloc V (.cells #[.int .i64 (K : Int), .int .i64 (A : Int), .int .i64 (B : Int), .int .i64 (C : Int)] 3)
    have HHd : Hid (∀ n, n ∈ [K, A, B, C] → n ≤ 1073741824) := by intro n hn; simp at hn; omega
    obtain ⟨hd, hhd⟩ : ∃ hd : List Nat, hd = [K, A, B, C] := ⟨_, rfl⟩
    have HL4 : Hid (hd.length = 4 ∧ hd = [K, A, B, C]) := ⟨by rw [hhd]; rfl, hhd⟩
    rw [← hhd] at HHd
    have hH2 : Lsts (V.alloc (.cells #[.int .i64 (K : Int), .int .i64 (A : Int), .int .i64 (B : Int), .int .i64 (C : Int)] 3)) (some ⟨V.heap.size, 0, none⟩) 4 4 (ints hd) := by rw [hhd]; exact hH
    obtain ⟨W, hWe⟩ : ∃ W, W = V.alloc (.cells #[.int .i64 (K : Int), .int .i64 (A : Int), .int .i64 (B : Int), .int .i64 (C : Int)] 3) := ⟨_, rfl⟩
    have HWe : Hid (W = V.alloc (.cells #[.int .i64 (K : Int), .int .i64 (A : Int), .int .i64 (B : Int), .int .i64 (C : Int)] 3)) := hWe
    rw [← hWe] at hH2 hb2
    have HH : Hid (Lsts W (some ⟨V.heap.size, 0, none⟩) 4 4 (ints hd)) := hH2
    have hB2 := bthen hB1 hb2
    have HIW : Hid (Lsts W pi li ci (ints (nat0 ids)) ∧ Lsts W pr lr cr (ints (nat0 rows)) ∧ NRow W pn ln cn nats) := ⟨HII.out.1.below hb2, HII.out.2.1.below hb2, HII.out.2.2.below hb2⟩
    have HC : Hid (W.cell? ⟨G, 4, none⟩ = some (.slice pi li ci) ∧ W.cell? ⟨G, 5, none⟩ = some (.slice pr lr cr) ∧ W.cell? ⟨G, 6, none⟩ = some (.slice pn ln cn)) := ⟨bkeep hb2 c4 rfl, bkeep hb2 c5 rfl, bkeep hb2 c6 rfl⟩
    go_wp2_with fail
    rw [← HWe.out]
    clear hH hH2 hWe HWe hhd HII c0 c1 c2 c3 c4 c5 c6 hB1 hb2
    generalize V.heap.size = g at *
    go_loopw [5, 7] (fun v5 v7 wr => ∃ (i : Nat) (out : List Int), v7 = .int .i64 i ∧ i ≤ 4 ∧ BOwn wr W.heap.size v5 out ∧ Hid (CodesOf (hd.take i) out) ∧ Below W.heap.size W wr) (fun _ v7 _ => 4 - (intOf v7).toNat)
    case atStart => exact ⟨0, [], rfl, Nat.zero_le _, BOwn.nil _ _, (rfl : CodesOf [] []), Below.refl _ _⟩
    case round =>
      obtain ⟨i, out, rfl, hi, hown, HO, hbr⟩ := hrel
      by_cases hlt : i < 4
      · have hlti : (i : Int) < 4 := by omega
        obtain ⟨bb, off, hbe, hcl⟩ := (HH.out.below hbr).cells (by omega)
        have hx := hcl i hlt
        cases hbe
        rw [ints_get, Nat.zero_add] at hx
        obtain ⟨n, hn⟩ : ∃ n, n = hd.getD i 0 := ⟨_, rfl⟩
        rw [← hn] at hx
        have hkn : i < hd.length := by rw [HL4.out.1]; exact hlt
        have hnb : n ≤ 1073741824 := by rw [hn]; exact HHd.out _ (by simp [List.getD, hkn])
        have hol : out.length ≤ 40 := by
          have := codes_len HO.out (fun m hm => by have := HHd.out m (List.mem_of_mem_take hm); omega)
          simp at this
          omega
        have HN : Hid (∀ c, IsCode c n → CodesOf (hd.take (i + 1)) (out ++ c)) := fun c hc => by
          rw [take_more hkn, ← hn]
          exact HO.out.snoc hc
        clear HO hcl hn hkn
        have hsz := hbr.size
        go_wp2_with fail
        refine (r9number_any n _ (by omega)).mono ?_
        rintro e w2 ⟨v2, c2, rfl, k1, k2, k3⟩
        obtain ⟨p2, l2, q2, rfl, hB2, -, nn2⟩ := k1.fresh k2.digs
        have hc2 := code_10 k2 (by omega)
        have hl2 := hB2.hlen
        have hown2 := own9 hown k3
        have hb2 := hbr.trans (k3.mono hsz)
        have HK : Hid (CodesOf (hd.take (i + 1)) (out ++ c2)) := HN.out c2 k2
        clear hown hbr k1 k2 k3 HN
        go_wp2_with (at_builtin; refine wpList_appBW _ rfl _ _ 28 rfl Try.underlying28 W.heap.size _ out rfl hown2 p2 l2 q2 c2 rfl hB2 (nil9 nn2) ?c1 W ?c2 hb2 ?_)
        case c1 => omega
        case c2 => exact hb2.size
        intro v' w3 hown3 hb3 _
        clear hown2 hb2 hB2 nn2
        go_wp2
        go_roundw
        case rel => exact ⟨i + 1, out ++ c2, rfl, by omega, hown3, HK, hb3⟩
        case measure => simp [intOf]; omega
      · obtain rfl : i = 4 := by omega
        obtain ⟨y0, hy0⟩ : ∃ y0, y0 = out := ⟨_, rfl⟩
        subst hy0
        have H0 : Hid (CodesOf hd y0 ∧ y0.length ≤ 40 ∧ Digs 256 y0) := by
          have h := HO.out
          rw [List.take_of_length_le (by rw [HL4.out.1]; exact Nat.le_refl _)] at h
          have := codes_len h (fun m hm => by have := HHd.out m hm; omega)
          rw [HL4.out.1] at this
          exact ⟨h, this, lst_digs h⟩
        clear HO HH
        have c4 := bkeep hbr HC.out.1 rfl
        have hsz := hbr.size
        have hy0 := H0.out.2.1
        go_wp2_with fail
        refine (r12list_any pi li ci (nat0 ids) _ (HIW.out.1.below hbr) (by omega) HBI.out.1).mono ?_
        rintro e w2 ⟨v2, y1, rfl, k1, k2, k3⟩
        obtain ⟨l1, d1⟩ := lst_len k2 (by rw [HLI.out.1]; omega) HBI.out.1
        obtain ⟨p2, l2, q2, rfl, hB2', -, nn2⟩ := k1.fresh d1
        have hl2 := hB2'.hlen
        have hown2 := own9 hown k3
        have hb2 := hbr.trans (k3.mono hsz)
        have H1 : Hid (IsLst (nat0 ids) y1 ∧ Digs 256 y1) := ⟨k2, d1⟩
        clear hown hbr k1 k2 k3 c4 d1
        go_wp2_with (at_builtin; refine wpList_appBW _ rfl _ _ 28 rfl Try.underlying28 W.heap.size _ _ rfl hown2 p2 l2 q2 y1 rfl hB2' (nil9 nn2) ?c1 W ?c2 hb2 ?_)
        case c1 => omega
        case c2 => exact hb2.size
        intro v3 w3 hown3 hb3 _
        clear hown2 hb2 hB2' nn2
        have c5 := bkeep hb3 HC.out.2.1 rfl
        have hsz3 := hb3.size
        have hl3 : (y0 ++ y1).length ≤ 163890 := by rw [List.length_append]; omega
        go_wp2_with fail
        refine (r12list_any pr lr cr (nat0 rows) _ (HIW.out.2.1.below hb3) (by omega) HBI.out.2).mono ?_
        rintro e w4 ⟨v4, y2, rfl, k1, k2, k3⟩
        obtain ⟨l2', d2⟩ := lst_len k2 (by rw [HLI.out.2.1]; omega) HBI.out.2
        obtain ⟨p4, l4, q4, rfl, hB4, -, nn4⟩ := k1.fresh d2
        have hl4 := hB4.hlen
        have hown4 := own9 hown3 k3
        have hb4 := hb3.trans (k3.mono hsz3)
        have H2 : Hid (IsLst (nat0 rows) y2 ∧ Digs 256 y2) := ⟨k2, d2⟩
        clear hown3 hb3 k1 k2 k3 c5 d2
        go_wp2_with (at_builtin; refine wpList_appBW _ rfl _ _ 28 rfl Try.underlying28 W.heap.size _ _ rfl hown4 p4 l4 q4 y2 rfl hB4 (nil9 nn4) ?c1 W ?c2 hb4 ?_)
        case c1 => omega
        case c2 => exact hb4.size
        intro v5 w5 hown5 hb5 _
        clear hown4 hb4 hB4 nn4
        have c6 := bkeep hb5 HC.out.2.2 rfl
        have hsz5 := hb5.size
        have hl5 : (y0 ++ (y1 ++ y2)).length ≤ 327740 := by simp only [List.length_append] at hl3 ⊢; omega
        have hnc := HIW.out.2.2.hcap
        have hnm := HIW.out.2.2.hmax
        unfold maxLen at hnm
        go_wp2_with fail
        refine (r9number_any ln _ (by omega)).mono ?_
        rintro e w6 ⟨v6, cN, rfl, k1, k2, k3⟩
        obtain ⟨p6, l6, q6, rfl, hB6, -, nn6⟩ := k1.fresh k2.digs
        have hc6 := code_10 k2 (by omega)
        have hl6 := hB6.hlen
        have hown6 := own9 hown5 k3
        have hb6 := hb5.trans (k3.mono hsz5)
        have H3 : Hid (IsCode cN nats.length) := by show IsCode _ _; rw [HLI.out.2.2]; exact k2
        clear hown5 hb5 k1 k2 k3 c6
        go_wp2_with (at_builtin; refine wpList_appBW _ rfl _ _ 28 rfl Try.underlying28 W.heap.size _ _ rfl hown6 p6 l6 q6 cN rfl hB6 (nil9 nn6) ?c1 W ?c2 hb6 ?_)
        case c1 => omega
        case c2 => exact hb6.size
        intro v7 w7 hown7 hb7 _
        clear hown6 hb6 hB6 nn6
        obtain ⟨P, hP⟩ : ∃ P, P = y0 ++ (y1 ++ (y2 ++ cN)) := ⟨_, rfl⟩
        replace hown7 : BOwn w7 W.heap.size v7 P := by rw [hP]; simpa using hown7
        have hPl : P.length ≤ 327750 := by rw [hP]; simp only [List.length_append] at hl5 ⊢; omega
        have HP : Hid (P = y0 ++ (y1 ++ (y2 ++ cN))) := hP
        clear hP hl5 hl3 hl2 hl4 hl6 l1 l2' hc6 hy0
        go_wp2_with fail
        go_loopw [5, 8] (fun v5 v8 wr => ∃ (i : Nat) (bl : List Int), v8 = .int .i64 i ∧ i ≤ ln ∧ BOwn wr W.heap.size v5 (P ++ bl) ∧ bl.length ≤ i * 2010 ∧ Hid (∃ bss, bss.length = i ∧ (∀ j, j < i → ResBytes (nats.getD j []) (bss.getD j [])) ∧ BlobsOf bss bl ∧ ∀ d, d ∈ bss → Digs 256 d) ∧ Below W.heap.size W wr) (fun _ v8 _ => ln - (intOf v8).toNat)
        case atStart => exact ⟨0, [], rfl, Nat.zero_le _, by rw [List.append_nil]; exact hown7, Nat.le_refl _, ⟨[], rfl, fun j hj => absurd hj (Nat.not_lt_zero _), rfl, fun d hd => absurd hd (by simp)⟩, hb7⟩
        case round =>
          clear hown7 hb7
          obtain ⟨i, bl, rfl, hi, hown, hbl, HO, hbr⟩ := hrel
          have c6 := bkeep hbr HC.out.2.2 rfl
          by_cases hlt : i < ln
          · have hlti : (i : Int) < (ln : Int) := by omega
            obtain ⟨bb, off, rfl, hcl⟩ := (HIW.out.2.2.below hbr).cells (by omega)
            obtain ⟨pz, lz, qz, hx, hz⟩ := hcl i hlt
            obtain ⟨zs, hze⟩ : ∃ zs, zs = nats.getD i [] := ⟨_, rfl⟩
            rw [← hze] at hz
            have HZ : Hid (zs = nats.getD i []) := hze
            have hsz := hbr.size
            clear hcl hze
            go_wp2_with fail
            refine (refBytes_nil pz lz qz zs _ hz).mono ?_
            rintro e w8 ⟨p8, n8, q8, bs, rfl, hB8, hRB, hn8, hnil8, hb8⟩
            have hd8 := hB8.digs
            have hl8 := hB8.hlen
            have hbr8 := hbr.trans (hb8.mono hsz)
            have hown8 := own9 hown hb8
            have HRB : Hid (ResBytes (nats.getD i []) bs) := by show ResBytes _ _; rw [← HZ.out]; exact hRB
            clear hx hz hown hbr hb8 HZ c6 hRB
            have hsz8 := hbr8.size
            go_wp2_with fail
            refine (r9bytes_any p8 n8 q8 bs _ hB8 hnil8 (by omega)).mono ?_
            rintro e w9 ⟨v9, c9, rfl, k1, k2, k3⟩
            have hc9 := code_10 k2 (by omega)
            obtain ⟨p9, l9, q9, rfl, hB9, -, nn9⟩ := k1.fresh (k2.digs.app9 hd8)
            have hl9 := hB9.hlen
            rw [List.length_append] at hl9
            have hown9 := own9 hown8 k3
            have hb9 := hbr8.trans (k3.mono hsz8)
            have HN : Hid (∃ bss, bss.length = i + 1 ∧ (∀ j, j < i + 1 → ResBytes (nats.getD j []) (bss.getD j [])) ∧ BlobsOf bss (bl ++ (c9 ++ bs)) ∧ ∀ d, d ∈ bss → Digs 256 d) := by
              obtain ⟨bss, f1, f2, f3, f4⟩ := HO.out
              refine ⟨bss ++ [bs], by simp [f1], fun j hj => ?_, f3.snoc k2, fun d hd => ?_⟩
              · by_cases e : j = i
                · subst e
                  have : (bss ++ [bs]).getD j [] = bs := by rw [← f1]; simp [List.getD]
                  rw [this]
                  exact HRB.out
                · have : (bss ++ [bs]).getD j [] = bss.getD j [] := by
                    unfold List.getD
                    rw [List.getElem?_append_left (by omega)]
                  rw [this]
                  exact f2 j (by omega)
              · rcases List.mem_append.1 hd with q | q
                · exact f4 d q
                · simp at q
                  rw [q]
                  exact hd8
            have hmul : (i + 1) * 2010 = i * 2010 + 2010 := by omega
            have hlim : i * 2010 ≤ 32931840 := by omega
            have hbl9 : (bl ++ (c9 ++ bs)).length ≤ (i + 1) * 2010 := by simp only [List.length_append]; omega
            have hPb : (P ++ bl).length ≤ 40000000 := by rw [List.length_append]; omega
            clear hown8 hbr8 k1 k2 k3 HO HRB hB8 hnil8
            go_wp2_with (at_builtin; refine wpList_appBW _ rfl _ _ 28 rfl Try.underlying28 W.heap.size _ _ rfl hown9 p9 l9 q9 (c9 ++ bs) rfl hB9 (nil9 nn9) ?c1 W ?c2 hb9 ?_)
            case c1 => omega
            case c2 => exact hb9.size
            intro v10 w10 hown10 hb10 _
            clear hown9 hb9 hB9 nn9
            go_wp2
            go_roundw
            case rel => exact ⟨i + 1, bl ++ (c9 ++ bs), by go_num, by omega, hown10, hbl9, HN, hb10⟩
            case measure => simp [intOf]; omega
          · obtain rfl : i = ln := by omega
            have HE : Hid (IsMsg K A B C ids rows nats (P ++ bl) ∧ Digs 256 (P ++ bl)) := by
              obtain ⟨bss, f1, f2, f3, f4⟩ := HO.out
              refine ⟨⟨bss, ⟨by rw [f1, HLI.out.2.2], fun j hj => f2 j (by rw [← HLI.out.2.2]; exact hj)⟩, y0, y1, y2, cN ++ bl, ?_, H1.out.1, H2.out.1, ⟨cN, bl, ?_, f3, rfl⟩, ?_⟩, ?_⟩
              · have := H0.out.1
                rw [HL4.out.2] at this
                exact this
              · have := H3.out
                rw [HLI.out.2.2, ← f1] at this
                exact this
              · rw [HP.out]; simp
              · rw [HP.out]
                exact (H0.out.2.2.app9 (H1.out.2.app9 (H2.out.2.app9 H3.out.digs))).app9 (blobs_digs f3 f4)
            obtain ⟨Y, hY⟩ : ∃ Y, Y = P ++ bl := ⟨_, rfl⟩
            rw [← hY] at HE hown
            have hYl : Y.length ≤ 40000000 := by rw [hY, List.length_append]; omega
            clear HO HP hY
            obtain ⟨oa, on, oc, rfl, hO, qbO, nnO⟩ := hown.fresh HE.out.2
            have hol := hO.hlen
            have hBB := bthen hB2 hbr
            have HOF : Hid (Byts wr oa on oc Y ∧ ((oa = none → oc = 0) ∧ ∀ ad, oa = some ad → 0 < on → w.heap.size ≤ ad.block ∧ IsB wr ad.block)) := ⟨hO, nil9 nnO, fun ad e h0 => by
              obtain ⟨q, e2, hq, cur, hqc, -⟩ := qbO h0
              rw [e] at e2
              cases e2
              exact ⟨Nat.le_trans hB2.size hq, cur, hqc⟩⟩
            have HYL : Hid (Y.length = on) := hol
            have hoc := hO.hcap
            have hom := hO.hmax
            unfold maxLen at hom
            clear hown hO qbO nnO hol hbr
            by_cases hbig : 1048576 < on
            · have hbd : (1048576 : Int) < (on : Int) := by omega
              have HF : Hid (ResWire K A B C ids rows nats [] 16) := .inr ⟨fun h => by
                obtain ⟨-, x, hx, hxl⟩ := h
                rw [hx.unique HE.out.1, HYL.out] at hxl
                omega, rfl, rfl⟩
              clear HE
              go_wp2_with fail
              first | exact ⟨none, 0, 0, [], 16, rfl, Byts.nil _, HF.out, ⟨fun _ => rfl, fun _ e => (by cases e)⟩, hBB⟩ | (go_ret2; exact ⟨none, 0, 0, [], 16, rfl, Byts.nil _, HF.out, ⟨fun _ => rfl, fun _ e => (by cases e)⟩, hBB⟩)
            · have hbd : decide ((1048576 : Int) < (on : Int)) = false := decide_eq_false (by omega)
              have HF : Hid (ResWire K A B C ids rows nats Y 0) := .inl ⟨HM.out, HE.out.1, by rw [HYL.out]; omega, rfl⟩
              clear HE
              go_wp2_with fail
              first | exact ⟨oa, on, oc, Y, 0, rfl, HOF.out.1, HF.out, HOF.out.2, hBB⟩ | (go_ret2; exact ⟨oa, on, oc, Y, 0, rfl, HOF.out.1, HF.out, HOF.out.2, hBB⟩)
end Go.Proofs.Ytnbdbahfekneoaa
