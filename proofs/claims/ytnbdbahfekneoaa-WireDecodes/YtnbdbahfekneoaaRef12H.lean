/-
  The contract of the document's Decode (wire), put together.
-/
import Derived.Test.YtnbdbahfekneoaaR12G
namespace Go.Proofs.Ytnbdbahfekneoaa
open Go.RowKit

theorem top_right {l : List Int} (r : rightB l = true) : Top l ∧ l.length ≤ 64 := by
  unfold rightB at r
  simp at r
  refine ⟨?_, r.1⟩
  rcases r.2 with e | e
  · exact .inl e
  · exact .inr e
theorem natbytes_len {zs bs : List Int} (h : ResBytes zs bs) (r : rightB zs = true) (hl : zs.length ≤ 4) (d : Digs 18446744073709551616 zs) : bs.length ≤ 32 := by
  unfold ResBytes at h
  rw [if_pos r] at h
  have h1 : val 256 bs.reverse < 256 ^ 32 := by
    rw [h.2.2]
    have := val_lt_pow (B := 18446744073709551616) (by decide) d hl
    have e : (18446744073709551616 : Int) ^ 4 = 256 ^ 32 := by decide
    omega
  have := len_le (B := 256) (by decide) (zs := bs.reverse) (fun x hx => h.1 x (List.mem_reverse.1 hx)) h.2.1 h1
  simpa using this
theorem nat_again {zs bs ls : List Int} {er : Int} (h : ResBytes zs bs) (r : rightB zs = true) (d : Digs 18446744073709551616 zs) (k : Res (val 256 bs.reverse) ls er) : ls = zs := by
  unfold ResBytes at h
  rw [if_pos r] at h
  rw [h.2.2] at k
  exact (k.unique (.inl ⟨rfl, d, (top_right r).1, (top_right r).2, rfl⟩)).1
/-- A message's bytes, part by part. -/
theorem msg_parts {k a b c : Int} {ids rows : List Int} {nats : List (List Int)} {L : List Int} (r : RightM k a b c ids rows nats) (d : DigsN nats) (h : IsMsg k a b c ids rows nats L) :
    ∃ bss y0 y1 y2 y3, NatsB nats bss ∧ (CodesOf [k.toNat, a.toNat, b.toNat, c.toNat] y0 ∧ L = y0 ++ (y1 ++ (y2 ++ y3)) ∧ ∀ m, m ∈ [k.toNat, a.toNat, b.toNat, c.toNat] → m ≤ 1073741824) ∧ (IsLst (nat0 ids) y1 ∧ (nat0 ids).length ≤ 16384 ∧ ∀ m, m ∈ nat0 ids → m ≤ 1073741824) ∧ (IsLst (nat0 rows) y2 ∧ (nat0 rows).length ≤ 16384 ∧ ∀ m, m ∈ nat0 rows → m ≤ 1073741824) ∧ (IsBlobs bss y3 ∧ bss.length ≤ 16384 ∧ ∀ e, e ∈ bss → e.length ≤ 32) := by
  obtain ⟨bss, hB, y0, y1, y2, y3, h0, h1, h2, h3, e⟩ := h
  have p1 := r.p1
  have p4 := r.p4
  refine ⟨bss, y0, y1, y2, y3, hB, ⟨h0, e, fun m hm => ?_⟩, ⟨h1, by rw [nat0_len]; omega, nat0_le r.p6⟩, ⟨h2, by rw [nat0_len]; omega, nat0_le (fun i hi => ⟨(r.p7 i hi).1, (r.p7 i hi).2.1⟩)⟩, ⟨h3, by rw [hB.1]; omega, fun x hx => ?_⟩⟩
  · simp at hm
    omega
  · obtain ⟨i, hi, rfl⟩ := List.getElem_of_mem hx
    have hi2 : i < nats.length := by rw [← hB.1]; exact hi
    have q := hB.2 i hi2
    rw [show bss.getD i [] = bss[i] by simp [List.getD, hi]] at q
    exact natbytes_len q (r.p8 i hi2).1 (r.p8 i hi2).2 (d i hi2)
theorem put7_below {B : Nat} {w0 w : World} (h : Below B w0 w) {G : Nat} (hG : B ≤ G) (x0 x1 x2 x3 x4 x5 x6 : Value) : Below B w0 (((((((w.setCell ⟨G, 0, none⟩ x0).setCell ⟨G, 1, none⟩ x1).setCell ⟨G, 2, none⟩ x2).setCell ⟨G, 3, none⟩ x3).setCell ⟨G, 4, none⟩ x4).setCell ⟨G, 5, none⟩ x5).setCell ⟨G, 6, none⟩ x6) :=
  ((((((h.setCell (p := ⟨G, 0, none⟩) hG x0).setCell (p := ⟨G, 1, none⟩) hG x1).setCell (p := ⟨G, 2, none⟩) hG x2).setCell (p := ⟨G, 3, none⟩) hG x3).setCell (p := ⟨G, 4, none⟩) hG x4).setCell (p := ⟨G, 5, none⟩) hG x5).setCell (p := ⟨G, 6, none⟩) hG x6
theorem put7_grown (w : World) (G : Nat) (x0 x1 x2 x3 x4 x5 x6 : Value) : w.grownBy (((((((w.setCell ⟨G, 0, none⟩ x0).setCell ⟨G, 1, none⟩ x1).setCell ⟨G, 2, none⟩ x2).setCell ⟨G, 3, none⟩ x3).setCell ⟨G, 4, none⟩ x4).setCell ⟨G, 5, none⟩ x5).setCell ⟨G, 6, none⟩ x6) (some G) :=
  grown_then (grown_then (grown_then (grown_then (grown_then (grown_then (grown_set w G 0 x0) (grown_set _ G 1 x1)) (grown_set _ G 2 x2)) (grown_set _ G 3 x3)) (grown_set _ G 4 x4)) (grown_set _ G 5 x5)) (grown_set _ G 6 x6)
theorem MsgAt.set4 {w : World} {g : Nat} {k a b c : Int} {pi pr pn : Option Addr} {li ci lr cr ln cn : Nat} (h : MsgAt w g k a b c pi li ci pr lr cr pn ln cn) (p : Option Addr) (l m : Nat) : MsgAt (w.setCell ⟨g, 4, none⟩ (.slice p l m)) g k a b c p l m pr lr cr pn ln cn := by
  have := heap_setCell_same w g 4 _ _ (.slice p l m) h
  simpa [MsgAt] using this
theorem MsgAt.set5 {w : World} {g : Nat} {k a b c : Int} {pi pr pn : Option Addr} {li ci lr cr ln cn : Nat} (h : MsgAt w g k a b c pi li ci pr lr cr pn ln cn) (p : Option Addr) (l m : Nat) : MsgAt (w.setCell ⟨g, 5, none⟩ (.slice p l m)) g k a b c pi li ci p l m pn ln cn := by
  have := heap_setCell_same w g 5 _ _ (.slice p l m) h
  simpa [MsgAt] using this

set_option maxRecDepth 100000 in
set_option maxHeartbeats 12800000 in
theorem r12dec_any (b : Option Addr) (lb cb : Nat) (L : List Int) (w : World) (h : Byts w b lb cb L) (hnil : b = none → cb = 0) (hlen : lb ≤ 140737488355300) :
    Calls Try.prog 14 #[.slice b lb cb] w fun e w' => MDecT L w e w' := by
  have hll := h.hlen
  have NO : ∀ wx : World, Below w.heap.size w wx → (∀ k a b c ids rows nats, RightM k a b c ids rows nats → DigsN nats → IsMsg k a b c ids rows nats L → ¬ L.length ≤ 1048576) → MDecT L w (.returned (.tuple #[.agg #[.int .i64 0, .int .i64 0, .int .i64 0, .int .i64 0, .slice none 0 0, .slice none 0 0, .slice none 0 0], .int .i64 16])) (((((((wx.setCell ⟨w.heap.size, 0, none⟩ (.int .i64 0)).setCell ⟨w.heap.size, 1, none⟩ (.int .i64 0)).setCell ⟨w.heap.size, 2, none⟩ (.int .i64 0)).setCell ⟨w.heap.size, 3, none⟩ (.int .i64 0)).setCell ⟨w.heap.size, 4, none⟩ (.slice none 0 0)).setCell ⟨w.heap.size, 5, none⟩ (.slice none 0 0)).setCell ⟨w.heap.size, 6, none⟩ (.slice none 0 0)) := fun wx hb hn =>
    ⟨0, 0, 0, 0, none, 0, 0, none, 0, 0, none, 0, 0, [], [], [], 16, rfl, ⟨Lsts.nil _, Lsts.nil _, NRow.nil _⟩, .inr ⟨hn, ⟨rfl, rfl, rfl, rfl⟩, ⟨rfl, rfl, rfl⟩, rfl⟩, put7_below hb (Nat.le_refl _) _ _ _ _ _ _ _⟩
  have hb0 := balloc w (.cells #[.int .i64 0, .int .i64 0, .int .i64 0, .int .i64 0, .slice none 0 0, .slice none 0 0, .slice none 0 0] 25)
  have hG0 := MsgAt.new w 0 0 0 0 none none none 0 0 0 0 0 0
  obtain ⟨V0, hV0⟩ : ∃ V0, V0 = w.alloc (.cells #[.int .i64 0, .int .i64 0, .int .i64 0, .int .i64 0, .slice none 0 0, .slice none 0 0, .slice none 0 0] 25) := ⟨_, rfl⟩
  have hsz0 : V0.heap.size = w.heap.size + 1 := by rw [hV0]; simp
  rw [← hV0] at hb0 hG0
  have h0 := h.below hb0
  have hb1 := balloc V0 (.cells #[.slice b lb cb, .int .i64 0] 63)
  have hR1 : RRdAt (V0.alloc (.cells #[.slice b lb cb, .int .i64 0] 63)) V0.heap.size L := ⟨b, lb, cb, 0, L, Nat.zero_le _, hlen, by simp, heap_alloc_new _ _, h0.below hb1, hnil, fun _ _ _ => trivial⟩
  obtain ⟨V, hV⟩ : ∃ V, V = V0.alloc (.cells #[.slice b lb cb, .int .i64 0] 63) := ⟨_, rfl⟩
  have hsz1 : V.heap.size = V0.heap.size + 1 := by rw [hV]; simp
  rw [← hV] at hb1 hR1
  have hbV := bthen hb0 hb1
  have hGV := hG0.kept (hb1.block _ hG0.lt)
  have hb2 := balloc V (.cells #[.int .i64 0, .int .i64 0, .int .i64 0, .int .i64 0] 64)
  have hA2 : (V.alloc (.cells #[.int .i64 0, .int .i64 0, .int .i64 0, .int .i64 0] 64)).heap[V.heap.size]? = some (.cells (arr4 []) 64 (0, 0)) := heap_alloc_new _ _
  obtain ⟨W, hW⟩ : ∃ W, W = V.alloc (.cells #[.int .i64 0, .int .i64 0, .int .i64 0, .int .i64 0] 64) := ⟨_, rfl⟩
  rw [← hW] at hb2 hA2
  have hR2 := (hR1.now).below hb2
  have lowW : ∀ {wx : World}, V.grownBy wx (some V0.heap.size) → Below w.heap.size w wx := fun hg => hbV.grown hg hbV.size (fun q hq => by cases hq; omega)
  have hgW : V.grownBy W (some V0.heap.size) := grown_of_below hb2 _
  clear hb0 hb1 hb2 hR1
  go_enter Try.func14, Try.ntmps14
  refine dec_s0 ?_
  intros
  rw [← hV0]
  refine dec_s1 hG0 (by omega) (fun hbig => NO V0 (by rw [hV0]; exact balloc w _) (fun k a b c ids rows nats _ _ _ => by omega)) (fun hsm => ?_)
  intros
  refine dec_s3 ?_
  intros
  rw [← hV]
  refine dec_s4 ?_
  intros
  rw [← hW]
  refine dec_l1 hGV (by omega) (by omega) (Nat.le_refl _) hgW hR2 hA2 (fun wx hg hn => NO wx (lowW hg) (fun k a b c ids rows nats r d m => by
    obtain ⟨bss, y0, y1, y2, y3, -, ⟨q1, q2, q3⟩, -⟩ := msg_parts r d m
    exact absurd (hn _ _ _ q1 q2 rfl q3) id)) (fun w1 ns R1 => ?_)
  intros
  rename_i hnl hnb hA1 hR1 hg1 S1
  obtain ⟨n0, n1, n2, n3, rfl⟩ : ∃ n0 n1 n2 n3, ns = [n0, n1, n2, n3] := by
    match ns, hnl with
    | [n0, n1, n2, n3], _ => exact ⟨n0, n1, n2, n3, rfl⟩
  have hA1' : w1.heap[V.heap.size]? = some (.cells #[.int .i64 (n0 : Int), .int .i64 (n1 : Int), .int .i64 (n2 : Int), .int .i64 (n3 : Int)] 64 (0, 0)) := hA1
  refine dec_s12 hA1' ?_
  intros
  have hbX := balloc w1 (.cells #[.int .i64 (n0 : Int), .int .i64 (n1 : Int), .int .i64 (n2 : Int), .int .i64 (n3 : Int), .slice none 0 0, .slice none 0 0, .slice none 0 0] 25)
  have hMX := MsgAt.new w1 (n0 : Int) n1 n2 n3 none none none 0 0 0 0 0 0
  obtain ⟨X, hX⟩ : ∃ X, X = w1.alloc (.cells #[.int .i64 (n0 : Int), .int .i64 (n1 : Int), .int .i64 (n2 : Int), .int .i64 (n3 : Int), .slice none 0 0, .slice none 0 0, .slice none 0 0] 25) := ⟨_, rfl⟩
  rw [← hX]
  rw [← hX] at hbX hMX
  have hgX := grown_low hg1 (hbX.mono hg1.size)
  have hRX := hR1.below hbX
  have hqV : V.heap.size ≤ w1.heap.size := hg1.size
  refine dec_s13 hRX (fun w2 p1 l1 c1 o1 => ?_)
  intros
  rename_i T1
  obtain ⟨_, _, _, ids, ok1, R2, e1, hI, ⟨bI, lI⟩, ⟨-, fI⟩, hR2', hg2, S2⟩ := T1
  cases e1
  have hM2 := hMX.kept (hg2.block _ hMX.lt (by simp; omega))
  have hgV2 := grown_then hgX hg2
  have hIG : LstG w2 p1 l1 c1 (ints ids) := ⟨hI, fun ad e hp => by
    obtain ⟨-, cur, hc⟩ := fI ad e hp
    exact ⟨cur, _, hc, .inl rfl⟩⟩
  refine dec_s14 hR2' (fun w3 p2 l2 c2 o2 => ?_)
  intros
  rename_i T2
  obtain ⟨_, _, _, rows, ok2, R3, e2, hJ, ⟨bJ, lJ⟩, ⟨-, fJ⟩, hR3, hg3, S3⟩ := T2
  cases e2
  have hM3 := hM2.kept (hg3.block _ hM2.lt (by simp; omega))
  have hgV3 := grown_then hgV2 hg3
  have hIG3 := hIG.kp (Kp.grown hg3 (fun b e => by cases e; exact hR2'.notP))
  have hJG : LstG w3 p2 l2 c2 (ints rows) := ⟨hJ, fun ad e hp => by
    obtain ⟨-, cur, hc⟩ := fJ ad e hp
    exact ⟨cur, _, hc, .inl rfl⟩⟩
  refine dec_s15 hR3 (fun w4 n er R4 => ?_)
  intros
  rename_i T3
  obtain ⟨hN4, hR4, hg4⟩ := T3
  have hM4 := hM3.kept (hg4.block _ hM3.lt (by simp; omega))
  have hgV4 := grown_then hgV3 hg4
  have hK4 := Kp.grown hg4 (fun b e => by cases e; exact hR3.notP)
  have hIG4 := hIG3.kp hK4
  have hJG4 := hJG.kp hK4
  have hG4 := hGV.kept (hgV4.block _ hGV.lt (by simp; omega))
  have ALL : ∀ k a b c ids' rows' nats', RightM k a b c ids' rows' nats' → DigsN nats' → IsMsg k a b c ids' rows' nats' L → ∃ bss r, NatsB nats' bss ∧ [n0, n1, n2, n3] = [k.toNat, a.toNat, b.toNat, c.toNat] ∧ (o1 = true ∧ o2 = true ∧ er = 0) ∧ ids = nat0 ids' ∧ rows = nat0 rows' ∧ bss.length = n ∧ BlobsOf bss r ∧ R4 = r ++ [] ∧ ∀ e, e ∈ bss → e.length ≤ 32 := fun k a b c ids' rows' nats' r d m => by
    obtain ⟨bss, y0, y1, y2, y3, hB, ⟨q1, q2, q3⟩, ⟨q4, q5, q6⟩, ⟨q7, q8, q9⟩, ⟨⟨cc, rr, k1, k2, rfl⟩, q10, q11⟩⟩ := msg_parts r d m
    obtain ⟨a1, a2⟩ := S1 _ _ _ q1 q2 rfl q3
    obtain ⟨b1, b2, b3⟩ := S2 _ _ _ q4 a2 q5 q6
    obtain ⟨d1, d2, d3⟩ := S3 _ _ _ q7 b3 q8 q9
    obtain ⟨f1, f2, f3⟩ := hN4.at k1 q10 (by omega) d3
    exact ⟨bss, rr, hB, a1, ⟨b1, d1, f2⟩, b2, d2, f1.symm, k2, by rw [f3]; simp, q11⟩
  have hn4 := hN4.most
  clear hI hJ fI fJ S1 S2 S3 hN4 hIG hIG3 hJG hK4 hM2 hM3 hgV2 hgV3 hgX hRX hg1 hg2 hg3 hg4 hR1 hR2' hR3 hA1 hA1' hMX hbX
  refine dec_s16 hG4 (fun hn => NO w4 (lowW hgV4) (fun k a b c ids' rows' nats' r d m => by
    obtain ⟨bss, rr, -, -, q, -⟩ := ALL k a b c ids' rows' nats' r d m
    exact absurd q hn)) (fun ⟨z1, z2, z3⟩ => ?_)
  intros
  subst z1 z2 z3
  refine dec_s18 hM4 ?_
  intros
  have g5 := grown_set w4 w1.heap.size 4 (.slice p1 l1 c1)
  have hM5 := hM4.set4 p1 l1 c1
  have hb5 : Below V.heap.size w4 (w4.setCell ⟨w1.heap.size, 4, none⟩ (.slice p1 l1 c1)) := (Below.refl _ _).setCell (p := ⟨w1.heap.size, 4, none⟩) hqV _
  have hK5 := Kp.grown g5 (fun b e => by cases e; exact hM4.plain)
  have hgV5 := grown_low hgV4 hb5
  have hR5 := hR4.other (by omega) hb5
  have hIG5 := hIG4.kp hK5
  have hJG5 := hJG4.kp hK5
  obtain ⟨w5, hw5⟩ : ∃ w5, w5 = w4.setCell ⟨w1.heap.size, 4, none⟩ (.slice p1 l1 c1) := ⟨_, rfl⟩
  rw [← hw5] at hM5 hK5 hgV5 hR5 hIG5 hJG5
  rw [← hw5]
  clear g5 hb5 hM4 hgV4 hR4 hIG4 hJG4 hK5 hG4
  refine dec_s19 hM5 ?_
  intros
  have g6 := grown_set w5 w1.heap.size 5 (.slice p2 l2 c2)
  have hM6 := hM5.set5 p2 l2 c2
  have hb6 : Below V.heap.size w5 (w5.setCell ⟨w1.heap.size, 5, none⟩ (.slice p2 l2 c2)) := (Below.refl _ _).setCell (p := ⟨w1.heap.size, 5, none⟩) hqV _
  have hK6 := Kp.grown g6 (fun b e => by cases e; exact hM5.plain)
  have hgV6 := grown_low hgV5 hb6
  have hR6 := hR5.other (by omega) hb6
  have hIG6 := hIG5.kp hK6
  have hJG6 := hJG5.kp hK6
  obtain ⟨w6, hw6⟩ : ∃ w6, w6 = w5.setCell ⟨w1.heap.size, 5, none⟩ (.slice p2 l2 c2) := ⟨_, rfl⟩
  rw [← hw6] at hM6 hK6 hgV6 hR6 hIG6 hJG6
  rw [← hw6]
  clear g6 hb6 hM5 hgV5 hR5 hIG5 hJG5 hK6 hw5
  have hqW6 := hM6.lt
  refine dec_l2 hGV (by omega) (by omega) hqV hn4 hgV6 hR6 hM6 (fun wx hg hn => NO wx (lowW hg) (fun k a b c ids' rows' nats' r d m => by
    obtain ⟨bss, rr, -, -, -, -, -, q1, q2, q3, q4⟩ := ALL k a b c ids' rows' nats' r d m
    exact absurd (hn bss [] rr q2 q3 q1 q4) id)) (fun w7 pn ln cn nats => ?_)
  intros
  rename_i hM7 hO7 hnn hgV7 hK7 S7
  obtain ⟨an, cn', e7, hN7, -⟩ := hO7.row
  cases e7
  have hIG7 := hIG6.kp hK7
  have hJG7 := hJG6.kp hK7
  refine dec_s28 hM7 hIG7.lsts hJG7.lsts hN7 (fun w8 a8 l8 c8 er8 => ?_)
  intros
  rename_i T8
  obtain ⟨_, _, _, ys, _, e8, hY8, hW8, -, hb8⟩ := T8
  cases e8
  have hM8 := hM7.kept (hb8.block _ hM7.lt)
  have hgV8 := grown_low hgV7 (hb8.mono hgV7.size)
  have hG8 := hGV.kept (hgV8.block _ hGV.lt (by simp; omega))
  have hL8 := h.below (lowW hgV8)
  refine dec_s29 hG8 hY8 hL8 (fun hn => NO w8 (lowW hgV8) (fun k a b c ids' rows' nats' r d m hlm => by
    obtain ⟨bss, rr, hB, q0, -, q1, q2, q3, q4, q5, q6⟩ := ALL k a b c ids' rows' nats' r d m
    have hnats : nats = nats' := ext_getD (d := []) (by rw [hnn, ← q3, hB.1]) (fun j hj => by
      obtain ⟨er, hr⟩ := S7 bss [] rr q4 q5 q3 q6 j (by omega)
      have hj2 : j < nats'.length := by rw [← hB.1, q3]; omega
      exact nat_again (hB.2 j hj2) (r.p8 j hj2).1 (d j hj2) hr)
    have p1 := r.p1
    simp at q0
    have ek : (n0 : Int) = k ∧ (n1 : Int) = a ∧ (n2 : Int) = b ∧ (n3 : Int) = c := by omega
    have ei : ints ids = ids' := by rw [q1]; exact nat0_ints r.p6
    have ej : ints rows = rows' := by rw [q2]; exact nat0_ints (fun i hi => ⟨(r.p7 i hi).1, (r.p7 i hi).2.1⟩)
    rw [ek.1, ek.2.1, ek.2.2.1, ek.2.2.2, ei, ej, hnats] at hW8
    obtain ⟨u1, u2⟩ := hW8.unique (.inl ⟨r, m, hlm, rfl⟩)
    exact absurd ⟨u2, u1⟩ hn)) (fun ⟨z1, z2⟩ => ?_)
  intros
  subst z1 z2
  refine dec_s31 hG8 hM8 ?_
  have gG := put7_grown w8 w.heap.size (.int .i64 (n0 : Int)) (.int .i64 (n1 : Int)) (.int .i64 (n2 : Int)) (.int .i64 (n3 : Int)) (.slice p1 l1 c1) (.slice p2 l2 c2) (.slice pn nats.length cn)
  have hKG := (Kp.below hb8).trans (Kp.grown gG (fun b e => by cases e; exact hG8.plain))
  obtain ⟨an2, cn2, e9, hN9, -⟩ := ((hO7.below hb8).grown gG (by have := hGV.lt; omega) hG8.plain).row
  cases e9
  refine ⟨n0, n1, n2, n3, p1, l1, c1, p2, l2, c2, _, _, _, ints ids, ints rows, nats, 0, rfl, ⟨(hIG7.kp hKG).lsts, (hJG7.kp hKG).lsts, hN9⟩, ?_, put7_below (lowW hgV8) (Nat.le_refl _) _ _ _ _ _ _ _⟩
  rcases hW8 with ⟨u1, u2, u3, -⟩ | ⟨-, -, u3⟩
  · exact .inl ⟨u1, u2, u3, rfl⟩
  · cases u3
end Go.Proofs.Ytnbdbahfekneoaa
