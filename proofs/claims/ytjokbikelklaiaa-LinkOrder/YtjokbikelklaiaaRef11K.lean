/-
  The document's end of a link: the contract of In.
-/
import Derived.Test.YtjokbikelklaiaaR11G
namespace Go.Proofs.Ytjokbikelklaiaa
open Go.RowKit

set_option maxRecDepth 20000 in
set_option maxHeartbeats 6400000 in
theorem r11in_any (g : Nat) (st : LS) (T : Nat → Prop) (a : Option Addr) (la ca : Nat) (bs : List Int) (w : World) (h : REnd w g st T) (hb : Byts w a la ca bs) (hnil : a = none → ca = 0) (hlen : la ≤ 140737488355300) (hall : st.all.length + 16 ≤ 1073741824) :
    Calls Try.prog 17 #[.pointer (some ⟨g, 0, none⟩), .slice a la ca] w fun e w' => InT11 REnd w g st T bs e w' := by
  obtain ⟨hF, v1, v4, v6, hs, h⟩ := h
  have HF0 : Hid st.Fine := hF
  clear hF
  have HH : Hid (REndV w g st v1 v4 v6 hs T) := h
  go_enter Try.func17, Try.ntmps17
  go_wp2_with fail
  refine (r10dec_any a la ca bs w hb hnil hlen).mono ?_
  rintro e w1 ⟨d, s, ak, p, l, c, body, err, rfl, hbo, hres, ⟨hbn, hbf⟩, hb1⟩
  clear h hb
  have HI0 : Hid (InAt w T g w1.heap.size d s ak p l c body st v1 v4 v6 hs T (w1.alloc (.cells #[.bool d, .int .i64 s, .int .i64 ak, .slice p l c] 65))) := by
    have hz := balloc w1 (.cells #[.bool d, .int .i64 s, .int .i64 ak, .slice p l c] 65)
    have hF := CellF.new w1 d s ak p l c
    exact ⟨(HH.out.below hb1).below hz, ⟨hF.c0, hF.c1, hF.c2, hF.c3⟩, BytG.below ⟨hbo, hbn, fun ad e h0 => (hbf ad e h0).2⟩ hz, Only.of_below (bthen hb1 hz), fun b e => .inl e, hb1.size, fun e => by have := HH.out.old _ e; have := hb1.size; omega⟩
  clear HH hbo hbn hbf hb1
  go_wp2_with fail
  generalize hW : World.alloc w1 _ = W0 at HI0 ⊢
  generalize hV : w1.heap.size = V at HI0 ⊢
  clear hW hV w1
  have C0 := HI0.out.var.c0
  have C1 := HI0.out.var.c1
  have C2 := HI0.out.var.c2
  have g3 : W0.cell? ⟨g, 3, none⟩ = some (.int .i64 st.sent) := HI0.out.ends.cell 3
  rcases hres with ⟨hr, he, rfl⟩ | ⟨hn, ⟨rfl, rfl, rfl, rfl⟩, rfl⟩
  case inr =>
    have HB : Hid (∀ j, InT11 REnd w g st T bs (.returned (.int .i64 14)) (W0.drewN j)) := fun j => .inl ⟨fun f hf => hn _ _ _ _ hf.1 hf.2, rfl, (HI0.out.draw j).end HF0.out⟩
    clear HI0 hn
    go_quiet (fail)
    go_wp2
    go_ret
    exact HB.out _
  obtain ⟨r1, r2, r3, r4, r5, r6⟩ := (rightFr_iff _ _ _ _).1 hr
  obtain ⟨S, rfl⟩ : ∃ S : Nat, s = (S : Int) := ⟨s.toNat, by omega⟩
  obtain ⟨A, rfl⟩ : ∃ A : Nat, ak = (A : Int) := ⟨ak.toNat, by omega⟩
  obtain ⟨f, hf⟩ : ∃ f : Fr11, f = ⟨d, S, A, body⟩ := ⟨_, rfl⟩
  have hfr : IsFr f bs := by rw [hf]; exact ⟨hr, he⟩
  obtain ⟨n3, hn3⟩ : ∃ n3, n3 = st.sent := ⟨_, rfl⟩
  rw [← hn3] at g3
  by_cases hA : n3 < A
  · have HB : Hid (∀ j, InT11 REnd w g st T bs (.returned (.int .i64 14)) (W0.drewN j)) := fun j => .inr ⟨f, hfr, by unfold LS.inE; rw [hf, if_pos (by rw [← hn3]; exact hA)], by unfold LS.inF; rw [hf, if_pos (by rw [← hn3]; exact hA)]; exact (HI0.out.draw j).end HF0.out⟩
    have hAd : decide (n3 < A) = true := decide_eq_true hA
    clear HI0 hr he hf hfr hn3 hA
    go_quiet (fail)
    go_wp2
    go_ret
    exact HB.out _
  have hAd : decide (n3 < A) = false := decide_eq_false hA
  have HX : Hid (f = ⟨d, S, A, body⟩ ∧ IsFr f bs ∧ n3 = st.sent) := ⟨hf, hfr, hn3⟩
  clear hr he hf hfr hn3
  have hfi := HF0.out
  have g2 : W0.cell? ⟨g, 2, none⟩ = some (.int .i64 st.sure) := HI0.out.ends.cell 2
  obtain ⟨n2, hn2⟩ : ∃ n2, n2 = st.sure := ⟨_, rfl⟩
  rw [← hn2] at g2
  have HN2 : Hid (n2 = st.sure) := hn2
  have HAK : Hid ((st.acked A).Fine) := ⟨show max st.sure A ≤ st.sent by have := hfi.sure; have := HX.out.2.2; omega, hfi.sent, show st.sent ≤ max st.sure A + st.win by have := hfi.win; omega, hfi.w16, hfi.hold, hfi.told⟩
  clear hn2 hfi
  go_quiet (fail)
  go_wp2_with fail
  go_quiet (fail)
  go_upto_if 30 with fail
  go_cut [4] (fun v4' wx => v4' = .int .i64 0 ∧ Hid (InAt w T g V d S A p l c body (st.acked A) v1 v4 v6 hs T wx))
  case first =>
    have f2 : W0.frozen? ⟨g, 2, none⟩ = false := HI0.out.ends.frozen 2
    by_cases hS : n2 < A
    · have hSd : decide (n2 < A) = true := decide_eq_true hS
      have HJ : ∀ j, Hid (InAt w T g V d S A p l c body (st.acked A) v1 v4 v6 hs T ((W0.drewN j).setCell ⟨g, 2, none⟩ (.int .i64 A))) := fun j => (HI0.out.draw j).put 2 _ (by
        have e : (st.acked A).sure = A := by show max st.sure A = A; have := HN2.out; omega
        unfold endCells
        rw [e]
        rfl) rfl rfl rfl HAK.out.loose
      go_wp2
      go_meet
      case rel => exact ⟨rfl, HJ _⟩
    · have hSd : decide (n2 < A) = false := decide_eq_false hS
      have HJ : ∀ j k, Hid (InAt w T g V d S A p l c body (st.acked A) v1 v4 v6 hs T ((W0.drewN j).drewN k)) := fun j k => by
        have e : st.acked A = st := by
          unfold LS.acked
          have h1 : max st.sure A = st.sure := by have := HN2.out; omega
          rw [h1]
        rw [e]
        exact (HI0.out.draw j).draw k
      go_wp2
      go_meet
      case rel => exact ⟨rfl, HJ _ _⟩
  case rest =>
    obtain ⟨rfl, HC⟩ := hcut
    clear HI0 C0 C1 C2 g3 g2 HN2 hAd
    have D0 := HC.out.var.c0
    cases d with
    | false =>
      have HB : Hid (InT11 REnd w g st T bs (.returned (.int .i64 0)) wc) := .inr ⟨f, HX.out.2.1, by unfold LS.inE; rw [HX.out.1, if_neg (by have := HX.out.2.2; show ¬ st.sent < A; omega)], by
        unfold LS.inF
        rw [HX.out.1, if_neg (by have := HX.out.2.2; show ¬ st.sent < A; omega), if_neg (by simp)]
        exact HC.out.end HAK.out⟩
      clear HC HX
      go_wp2
      go_ret
      exact HB.out
    | true =>
      obtain ⟨st2, hst2⟩ : ∃ st2 : LS, st2 = { st.acked A with owes := true } := ⟨_, rfl⟩
      have hf2 : st2.Fine := by rw [hst2]; exact ⟨HAK.out.sure, HAK.out.sent, HAK.out.win, HAK.out.w16, HAK.out.hold, HAK.out.told⟩
      have g7 : wc.cell? ⟨g, 7, none⟩ = some (.bool (st.acked A).owes) := HC.out.ends.cell 7
      have f7 := HC.out.ends.frozen 7
      have HC2 : Hid (InAt w T g V true S A p l c body st2 v1 v4 v6 hs T (wc.setCell ⟨g, 7, none⟩ (.bool true))) := HC.out.put 7 _ (by rw [hst2]; rfl) (by rw [hst2]) (by rw [hst2]) (by rw [hst2]) hf2.loose
      have HY : Hid (st.inF f = LS.drain 16 (st2.keep S body) ∧ st.inE f = 0 ∧ (st.inF f).Fine ∧ st2.Fine ∧ st2.all = st.all) := by
        have e1 : ¬ st.sent < A := by have := HX.out.2.2; omega
        refine ⟨by unfold LS.inF; rw [HX.out.1, if_neg e1, if_pos rfl, hst2], by unfold LS.inE; rw [HX.out.1, if_neg e1], ?_, hf2, by rw [hst2]; rfl⟩
        rw [HX.out.1]
        exact (LS.in_got HF0.out rfl (by show A ≤ st.sent; omega)).fine
      clear hst2 hf2 HC
      go_upto_region 9 with fail
      generalize hW2 : World.setCell wc _ _ = W2 at HC2 ⊢
      clear hW2 g7 f7 D0 wc
      have E1 := HC2.out.var.c1
      obtain ⟨a4, k4, e4, -, hk4, hk5⟩ := HC2.out.ends.all.slice
      have g4 : W2.cell? ⟨g, 4, none⟩ = some v4 := HC2.out.ends.cell 4
      obtain ⟨n4, hn4⟩ : ∃ n4, n4 = st2.all.length := ⟨_, rfl⟩
      rw [← hn4] at e4 hk4
      rw [e4] at g4
      have HN4 : Hid (n4 = st2.all.length ∧ n4 + 16 ≤ 1073741824) := ⟨hn4, by rw [hn4, HY.out.2.2.2.2]; exact hall⟩
      have hn4b := HN4.out.2
      unfold maxLen at hk5
      clear hn4
      obtain ⟨z, hz⟩ := found_ex hs S
      have hzh := hz.held
      have HFd : ∀ j, Hid (Calls Try.prog 39 #[.pointer (some ⟨g, 0, none⟩), .int .i64 S] (W2.drewN j) fun e w' => e = .returned (.int .i64 z) ∧ w' = W2.drewN j) := fun j => r11find_eq g S st2 v1 v4 v6 hs T z hz _ (HC2.out.draw j).ends
      have HZ : Hid (FoundT hs S z ∧ (heldAt hs S).isNone = (st2.hold S).isNone) := ⟨hz, by rw [HC2.out.ends.held]⟩
      rw [HZ.out.2] at hzh
      have HB9 : ∀ b, Hid (b = keepB st2 S ↔ b = (decide (n4 ≤ S) && (decide (S < n4 + 16) && decide (z < 0)))) := fun b => by
        show _ ↔ _
        rw [hzh, HN4.out.1]
        rfl
      clear hz hzh
      go_cut [67] (fun v67 wx => v67 = .bool (keepB st2 S) ∧ Hid (InAt w T g V true S A p l c body st2 v1 v4 v6 hs T wx))
      case first =>
        have hJ : ∀ j, Hid (InAt w T g V true S A p l c body st2 v1 v4 v6 hs T (W2.drewN j)) := fun j => HC2.out.draw j
        clear HC2
        by_cases q1 : n4 ≤ S
        · have q1d : decide (n4 ≤ S) = true := decide_eq_true q1
          by_cases q2 : S < n4 + 16
          · have q2d : decide ((S : Int) < (n4 : Int) + 16) = true := decide_eq_true (by omega)
            have q2n : decide (S < n4 + 16) = true := decide_eq_true q2
            have HV67 : Hid (decide (z < 0) = keepB st2 S) := (HB9 _).out.2 (by rw [q1d, q2n]; rfl)
            clear HB9
            go_quiet ((go_at_call 39; exact Calls.quiet_of_same (HFd _).out))
            go_wp2
            go_meet
            case rel => exact ⟨congrArg Value.bool HV67.out, hJ _⟩
          · have q2d : decide ((S : Int) < (n4 : Int) + 16) = false := decide_eq_false (by omega)
            have HV67 : Hid (false = keepB st2 S) := (HB9 _).out.2 (by rw [q1d, decide_eq_false q2]; rfl)
            clear HB9
            go_quiet (fail)
            go_wp2
            go_meet
            case rel => exact ⟨congrArg Value.bool HV67.out, hJ _⟩
        · have q1d : decide (n4 ≤ S) = false := decide_eq_false q1
          have HV67 : Hid (false = keepB st2 S) := (HB9 _).out.2 (by rw [q1d]; rfl)
          clear HB9
          go_quiet (fail)
          go_wp2
          go_meet
          case rel => exact ⟨congrArg Value.bool HV67.out, hJ _⟩
      case rest =>
        obtain ⟨rfl, HC⟩ := hcut
        clear HC2 HFd HB9 E1 g4 HZ z
        go_upto_if 67 with fail
        go_cut [4] (fun v4' wx => v4' = .int .i64 0 ∧ Hid (∃ v6' hs' Tx, InAt w T g V true S A p l c body (st2.keep S body) v1 v4 v6' hs' Tx wx))
        case first =>
          cases hkb : keepB st2 S with
          | false =>
            have HJ : Hid (∃ v6' hs' Tx, InAt w T g V true S A p l c body (st2.keep S body) v1 v4 v6' hs' Tx wc) := ⟨v6, hs, T, by rw [LS.keep_false hkb]; exact HC.out⟩
            clear HC
            go_wp2
            go_meet
            case rel => exact ⟨rfl, HJ⟩
          | true =>
            have E1 := HC.out.var.c1
            have E3 := HC.out.var.c3
            have g6 : wc.cell? ⟨g, 6, none⟩ = some v6 := HC.out.ends.cell 6
            obtain ⟨a6, k6, e6, -, -, -⟩ := HC.out.ends.hold.slice
            obtain ⟨n6, hn6⟩ : ∃ n6, n6 = hs.length := ⟨_, rfl⟩
            rw [← hn6] at e6
            rw [e6] at g6
            have hn16 := HC.out.ends.few.2.2
            rw [← hn6] at hn16
            obtain ⟨vs, hv1, hv2⟩ := HC.out.ends.hold
            rw [← hn6, e6] at hv1
            have HV : Hid (n6 = hs.length ∧ wc.ownsRow 0 74 2 (.slice a6 n6 k6) n6 vs ∧ HeldC wc vs hs) := ⟨hn6, hv1, hv2⟩
            have hgl := HC.out.ends.lt
            have hgne : wc.heap.size ≠ g := by omega
            have hVl : V < wc.heap.size := World.block_lt_of_cell? _ _ E1
            have hVne : wc.heap.size ≠ V := by omega
            clear hn6 hv1 hv2
            have HCc : Hid (∀ (w3 : World) (o : Obj), (wc.alloc o).grownBy w3 (Value.slice a6 n6 k6).ownBlock → w3.cell? ⟨g, 6, none⟩ = some (.slice a6 n6 k6) ∧ w3.frozen? ⟨g, 6, none⟩ = false) := fun w3 o hg3 => by
              have q3 : w3.heap[g]? = some (.cells (endCells st2 v1 v4 v6) 43 (0, 0)) := (hg3.block g (by simp; omega) (fun e => HC.out.ends.apart.1.2.2 (by rw [e6]; exact e.symm))).trans ((heap_alloc_old wc _ hgl).trans HC.out.ends.heap)
              refine ⟨?_, frozen_of_row w3 g 6 _ _ q3⟩
              rw [cell_of_row w3 g 6 _ _ _ q3, ← e6]
              rfl
            go_wp2_with fail
            go_region_law (first
              | (refine step_appHeld _ (by rfl) _ _ 41 (by rfl) Try.underlying41 (.slice a6 n6 k6) vs n6 (by rfl) (by exact rowOwn_below HV.out.2.1 ⟨rfl, rfl, rfl, by simp, fun k hk => Below.heap_alloc _ _ _ hk⟩) ⟨wc.heap.size, 0, none⟩ 1 1 [.int .i64 S, .slice p l c] (by rfl) (by rfl) (by exact held_cells wc _ _ _) (by intro u hu; simp at hu; rcases hu with rfl | rfl <;> rfl) (by omega) ?_; rintro v3 w3 hown3 hg3 hv3; obtain ⟨b3, k3, rfl⟩ := row_slice hown3; replace hg3 := grown_undraw hg3; have z3 : w3.cell? ⟨g, 6, none⟩ = some (.slice a6 n6 k6) := (HCc.out w3 _ hg3).1; have f3 : w3.frozen? ⟨g, 6, none⟩ = false := (HCc.out w3 _ hg3).2))
            all_goals
              have HJ : Hid (∃ v6' hs' Tx, InAt w T g V true S A p l c body (st2.keep S body) v1 v4 v6' hs' Tx (w3.setCell ⟨g, 6, none⟩ (.slice b3 (n6 + 1) k3))) := by
                obtain ⟨hs', Tx', hI⟩ := HC.out.keep (v6' := .slice b3 (n6 + 1) k3) HY.out.2.2.2.1 hkb r5 HV.out.2.2 (by have := HV.out.2.1.1; have := HV.out.1; omega) (by rw [← HV.out.1]; exact hown3) (by rw [e6]; exact hg3) (by rw [e6]; exact hv3)
                exact ⟨_, hs', Tx', hI⟩
              clear HC HV HCc hown3 hg3 hv3
              go_wp2
              go_meet
              case rel => exact ⟨rfl, HJ⟩
        case rest =>
          obtain ⟨rfl, HC3⟩ := hcut
          have HD0 : Hid (Drains (st2.keep S body) 16 (st.inF f) ∧ (st2.keep S body).all.length + 16 ≤ 1073741824) := ⟨by rw [HY.out.1]; exact Drains.start HY.out.2.2.2.1 S body, by rw [(LS.keep_same st2 S body).2.2.2.2.2.2.2, ← HN4.out.1]; exact HN4.out.2⟩
          have HFin : ∀ wx, Hid (EndT11 REnd w g (st.inF f) T wx → InT11 REnd w g st T bs (.returned (.int .i64 0)) wx) := fun wx hE => .inr ⟨f, HX.out.2.1, by rw [HY.out.2.1], hE⟩
          have HYF : Hid (st.inF f).Fine := HY.out.2.2.1
          clear HC HY HN4 hn4b hk4 hk5 e4 HX HAK
          obtain ⟨Y, hY⟩ : ∃ Y, Y = st.inF f := ⟨_, rfl⟩
          rw [← hY] at HD0 HFin HYF
          clear hY
          obtain ⟨v6', hs', Tx, hI⟩ := HC3.out
          have HI : Hid (InAt w T g V true S A p l c body (st2.keep S body) v1 v4 v6' hs' Tx wc) := hI
          clear HC3 hI
          go_wp2_with fail
          go_loopw [7] (fun _ wr => ∃ k sty v4' v6' hs' Tx, Hid (InAt w T g V true S A p l c body sty v1 v4' v6' hs' Tx wr) ∧ Hid (Drains sty k Y ∧ sty.all.length + k ≤ 1073741824)) (fun _ wr => sliceLen ((wr.cell? ⟨g, 6, none⟩).getD undef))
          case atStart => exact ⟨16, _, v4, v6', hs', Tx, HI, HD0⟩
          case round =>
            clear HI HD0 hs' Tx v6'
            obtain ⟨k, sty, v4', v6', hs', Tx, HI, HD⟩ := hrel
            obtain ⟨a4, k4, e4, -, hk4, hk5⟩ := HI.out.ends.all.slice
            have g4 : wr.cell? ⟨g, 4, none⟩ = some v4' := HI.out.ends.cell 4
            obtain ⟨n4, hn4⟩ : ∃ n4, n4 = sty.all.length := ⟨_, rfl⟩
            rw [← hn4] at e4 hk4
            rw [e4] at g4
            have HN4 : Hid (n4 = sty.all.length ∧ n4 + k ≤ 1073741824) := ⟨hn4, by rw [hn4]; exact HD.out.2⟩
            unfold maxLen at hk5
            clear hn4
            obtain ⟨z, hz⟩ := found_ex hs' n4
            have hfd := r11find_eq g n4 sty v1 v4' v6' hs' Tx z hz wr HI.out.ends
            have HFd := (show Hid _ from hfd)
            clear hfd
            go_wp2_with fail
            refine Calls.mono HFd.out ?_
            rintro e w' ⟨rfl, rfl⟩
            clear HFd
            have HZ : Hid (FoundT hs' n4 z) := hz
            rcases hz with ⟨i, hi, h1, h2, rfl⟩ | ⟨h1, rfl⟩
            · have hid : decide ((i : Int) < 0) = false := decide_eq_false (by omega)
              obtain ⟨gq, k6, q, m, c', e6, x2, x3, x4⟩ := HI.out.ends.hold.at hi
              have g6 : w'.cell? ⟨g, 6, none⟩ = some v6' := HI.out.ends.cell 6
              obtain ⟨n6, hn6⟩ : ∃ n6, n6 = hs'.length := ⟨_, rfl⟩
              rw [← hn6] at e6 hi
              rw [e6] at g6
              obtain ⟨b, hbd⟩ : ∃ b, b = (hs'.getD i (0, [])).2 := ⟨_, rfl⟩
              rw [← hbd] at x4
              have hn16 := HI.out.ends.few.2.2
              have hk6 := HI.out.ends.hold.slice
              obtain ⟨a6', k6', e6', -, hk6a, hk6b⟩ := hk6
              rw [← hn6] at hn16 e6' hk6a
              obtain ⟨rfl, -, rfl⟩ : a6' = some ⟨gq, 0, none⟩ ∧ n6 = n6 ∧ k6 = k6' := by
                have := e6'.symm.trans e6
                injection this with y1 y2 y3
                exact ⟨y1, rfl, y3.symm⟩
              unfold maxLen at hk6b
              obtain ⟨vs4, hv4, hw4⟩ := HI.out.ends.all
              rw [← HN4.out.1, e4] at hv4
              have HV4 : Hid (w'.ownsRow 0 31 1 (.slice a4 n4 k4) n4 vs4 ∧ vs4.length = n4 ∧ ∀ i, i < sty.all.length → ∃ p n c, vs4[i]? = some (.slice p n c) ∧ BytG w' p n c (sty.all.getD i [])) := ⟨hv4, by have := hv4.1; omega, hw4⟩
              have hold : sty.hold sty.all.length = some b := by
                rw [HI.out.ends.held, ← HN4.out.1, heldAt_some (by rw [← hn6]; exact hi) h1 h2, hbd]
              obtain ⟨j, hkj, hdr⟩ := HD.out.1.next hold
              have hn4b : n4 < 1073741824 := by have := HN4.out.2; omega
              have HB : Hid (BytG w' q m c' b ∧ b.length ≤ 1048576 ∧ n6 = hs'.length ∧ (hs'.getD i (0, [])).1 = n4) := ⟨x4, by
                rw [hbd]
                exact HI.out.ends.short.2.2 _ (by simp [List.getD, show i < hs'.length by omega]), hn6, h1⟩
              have HDj : Hid (k = j + 1 ∧ Drains { sty with all := sty.all ++ [b], hold := fun n => if n = sty.all.length then none else sty.hold n } j Y) := ⟨hkj, hdr⟩
              have hgl := HI.out.ends.lt
              have hgne : w'.heap.size ≠ g := by omega
              have hql : gq < w'.heap.size := World.block_lt_of_cell? _ _ x3
              have hqne : w'.heap.size ≠ gq := by omega
              have hii : (i : Int) < (n6 : Int) := by omega
              have hi0 : (0 : Int) ≤ (i : Int) := by omega
              have HCc : Hid (∀ (w3 : World) (o : Obj), (w'.alloc o).grownBy w3 (Value.slice a4 n4 k4).ownBlock → w3.cell? ⟨g, 4, none⟩ = some (.slice a4 n4 k4) ∧ w3.frozen? ⟨g, 4, none⟩ = false) := fun w3 o hg3 => by
                have q3 : w3.heap[g]? = some (.cells (endCells sty v1 v4' v6') 43 (0, 0)) := (hg3.block g (by simp; omega) (fun e => HI.out.ends.apart.1.2.1 (by rw [e4]; exact e.symm))).trans ((heap_alloc_old w' _ hgl).trans HI.out.ends.heap)
                refine ⟨?_, frozen_of_row w3 g 4 _ _ q3⟩
                rw [cell_of_row w3 g 4 _ _ _ q3, ← e4]
                rfl
              clear h1 h2 hbd hold hdr hkj x4 hv4 hw4 HZ hn6 e6'
              go_upto_region 14 with fail
              go_cut [7] (fun v7 wx => v7 = .int .i64 i ∧ Hid (∃ v4'' Tx', InAt w T g V true S A p l c body { sty with all := sty.all ++ [b] } v1 v4'' v6' hs' Tx' wx))
              case first =>
                go_region_law (first
                  | (refine step_appRow _ (by rfl) _ _ 35 (by rfl) Try.underlying35 (.slice a4 n4 k4) vs4 n4 (by rfl) (by exact rowOwn_below HV4.out.1 ⟨rfl, rfl, rfl, by simp, fun k hk => Below.heap_alloc _ _ _ hk⟩) w'.heap.size (.slice q m c') (by rfl) (by simp) (by rfl) (by omega) ?_; rintro v3 w3 hown3 hg3 hv3; obtain ⟨b3, k3, rfl⟩ := row_slice hown3; replace hg3 := grown_undraw hg3; have z3 : w3.cell? ⟨g, 4, none⟩ = some (.slice a4 n4 k4) := (HCc.out w3 _ hg3).1; have f3 : w3.frozen? ⟨g, 4, none⟩ = false := (HCc.out w3 _ hg3).2))
                all_goals
                  have HJ : Hid (∃ v4'' Tx', InAt w T g V true S A p l c body { sty with all := sty.all ++ [b] } v1 v4'' v6' hs' Tx' (w3.setCell ⟨g, 4, none⟩ (.slice b3 (n4 + 1) k3))) := ⟨_, HI.out.got (v4' := .slice b3 (n4 + 1) k3) HV4.out.2.2 (HV4.out.2.1.trans HN4.out.1) HB.out.1 HB.out.2.1 (by rw [← HN4.out.1]; exact hn4b) (by rw [← HN4.out.1]; exact hown3) (by rw [e4]; exact hg3) (by rw [e4]; exact hv3)⟩
                  clear HI HV4 HB HCc hown3 hg3 hv3
                  go_wp2
                  go_meet
                  case rel => exact ⟨rfl, HJ⟩
              case rest =>
                obtain ⟨rfl, HJ⟩ := hcut
                obtain ⟨v4'', Ty, hJ⟩ := HJ.out
                have HA : Hid (InAt w T g V true S A p l c body { sty with all := sty.all ++ [b] } v1 v4'' v6' hs' Ty wc) := hJ
                clear HJ hJ HV4 HCc x2 x3 g4 hgl hgne hql hqne hk4 hk5
                have g6' : wc.cell? ⟨g, 6, none⟩ = some (.slice (some ⟨gq, 0, none⟩) n6 k6) := by rw [← e6]; exact HA.out.ends.cell 6
                have hgl := HA.out.ends.lt
                have hgne : wc.heap.size ≠ g := by omega
                obtain ⟨vs, hv1, hv2⟩ := HA.out.ends.hold
                rw [← HB.out.2.2.1, e6] at hv1
                have hvl : vs.length = n6 * 2 := hv1.1
                have hql : gq < wc.heap.size := (World.ownsRow.lt hv1 gq rfl).2
                have hqne : wc.heap.size ≠ gq := by omega
                have HV : Hid (HeldC wc vs hs' ∧ vs.length = n6 * 2 ∧ n6 = hs'.length ∧ ∀ (wx : World), Below wc.heap.size wc wx → ∀ j u, vs[j]? = some u → wx.cell? ((⟨gq, 0, none⟩ : Addr).add j) = some u) := ⟨hv2, hvl, HB.out.2.2.1, fun wx hbx j u hj => by
                  rw [Addr.add_lit]
                  have := World.ownsRow.cells hv1 (g := gq) rfl j u hj
                  rw [Addr.add_lit] at this
                  exact (hbx.cell (World.block_lt_of_cell? _ _ this)).trans this⟩
                have HU : Hid (∀ u, u ∈ vs → u.oneCell' = true) := HeldC.one hv2 (by rw [hvl, HB.out.2.2.1])
                have HCc : Hid (∀ wx : World, Below wc.heap.size wc wx → wx.cell? ⟨g, 6, none⟩ = some (.slice (some ⟨gq, 0, none⟩) n6 k6) ∧ wx.frozen? ⟨g, 6, none⟩ = false) := fun wx hbx => by
                  have q3 : wx.heap[g]? = some (.cells (endCells { sty with all := sty.all ++ [b] } v1 v4'' v6') 43 (0, 0)) := (hbx.block g hgl).trans HA.out.ends.heap
                  refine ⟨?_, frozen_of_row wx g 6 _ _ q3⟩
                  rw [cell_of_row wx g 6 _ _ _ q3, ← e6]
                  rfl
                clear hv1 hv2
                have hi1 : i + 1 ≤ n6 := by omega
                have hi1i : (i : Int) + 1 ≤ (n6 : Int) := by omega
                have hi1k : (i : Int) + 1 ≤ (k6 : Int) := by omega
                have hik : (i : Int) ≤ (k6 : Int) := by omega
                have hi10 : (0 : Int) ≤ (i : Int) + 1 := by omega
                have hiw : IntKind.i64.wrap ((i : Int) + 1) = (i : Int) + 1 := by simp [IntKind.wrap, IntKind.signed, IntKind.bits]; omega
                by_cases hcap : k6 = i + 1
                · have hn6i : n6 = i + 1 := by omega
                  subst hcap
                  subst hn6i
                  have hik1 : (i : Int) ≤ (i : Int) + 1 := by omega
                  go_wp2_with fail
                  go_region_law (first
                    | (refine step_appHeld _ (by rfl) _ _ 41 (by rfl) Try.underlying41 (.slice (some ⟨wc.heap.size, 0, none⟩) 0 0) [] 0 (by rfl) (by exact World.ownsRow_made wc #[] 0 (Nat.zero_le _) (Nat.zero_le _) rfl) ⟨gq, 0, none⟩ i (i + 1) (vs.take (i * 2)) (by rfl) (by rw [List.length_take, HV.out.2.1]; omega) (by exact fun j u hj => HV.out.2.2.2 _ (by exact ⟨rfl, rfl, rfl, by simp, fun k hk => Below.heap_alloc _ _ _ hk⟩) j u (take_some hj)) (by exact fun u hu => HU.out u (List.mem_of_mem_take hu)) (by omega) ?_; rintro v4a w4 hown4 hg4 hv4; rw [Nat.zero_add, List.nil_append] at hown4; obtain ⟨b4, k4a, rfl⟩ := row_slice hown4; have hb4 : Below wc.heap.size wc w4 := row_new wc w4 (wc.alloc (.cells #[] 74)).drew rfl hg4; have z4 : w4.cell? ⟨g, 6, none⟩ = some (.slice (some ⟨gq, 0, none⟩) (i + 1) (i + 1)) := (HCc.out w4 hb4).1; have hn4' : Hid (∀ b, (Value.slice b4 i k4a).ownBlock = some b → wc.heap.size ≤ b) := row_newer wc w4 (wc.alloc (.cells #[] 74)).drew rfl hg4 hv4)
                    | (refine step_appHeld _ (by rfl) _ _ 41 (by rfl) Try.underlying41 (.slice b4 i k4a) _ i (by rfl) (by exact hown4) ⟨gq, 0, none⟩ 0 0 [] (by rfl) (by rfl) (by exact fun j u hj => by simp at hj) (by exact fun u hu => by cases hu) (by omega) ?_; rintro v5a w5 hown5 hg5 hv5; rw [Nat.add_zero, List.append_nil] at hown5; obtain ⟨b5, k5a, rfl⟩ := row_slice hown5; have hb5 : Below wc.heap.size wc w5 := row_then hb4 hg5 hn4'.out; have z5 : w5.cell? ⟨g, 6, none⟩ = some (.slice (some ⟨gq, 0, none⟩) (i + 1) (i + 1)) := (HCc.out w5 hb5).1; have f5 : w5.frozen? ⟨g, 6, none⟩ = false := (HCc.out w5 hb5).2; have hn5' : Hid (∀ b, (Value.slice b5 i k5a).ownBlock = some b → wc.heap.size ≤ b) := row_newest hb4 hn4'.out hv5))
                  all_goals
                    have HZ : Hid (∃ Tz, InAt w T g V true S A p l c body { sty with all := sty.all ++ [b], hold := fun n => if n = sty.all.length then none else sty.hold n } v1 v4'' (.slice b5 i k5a) (hs'.take i ++ hs'.drop (i + 1)) Tz (w5.setCell ⟨g, 6, none⟩ (.slice b5 i k5a))) := HA.out.less (i := i) (vs := vs) (by rw [← HV.out.2.2.1]; omega) HV.out.1 (by rw [← HV.out.2.2.1]; exact HV.out.2.1) hb5 (by rw [HB.out.2.2.2, HN4.out.1]) (by rw [← HV.out.2.2.1, Nat.sub_self, Nat.add_zero, List.drop_eq_nil_of_le (by rw [HV.out.2.1]; exact Nat.le_refl _), List.append_nil]; exact hown5) hn5'.out
                    have HMs : Hid ((w5.setCell ⟨g, 6, none⟩ (.slice b5 i k5a)).cell? ⟨g, 6, none⟩ = some (.slice b5 i k5a)) := World.cell?_setCell_same _ _ _ z5
                    obtain ⟨Tz, hz⟩ := HZ.out
                    have HZ2 := (show Hid _ from hz)
                    have HDD : Hid (sty.all.length + 1 + j ≤ 1073741824) := by have := HN4.out; have := HDj.out.1; show _ ≤ _; omega
                    clear hz HZ HA HV HU HCc hown4 hg4 hv4 hb4 hn4' hown5 hg5 hv5 hb5 hn5' z4
                    go_wp2
                    go_roundw
                    case rel => exact ⟨j, _, v4'', _, _, Tz, HZ2, ⟨HDj.out.2, by have := HDD.out; simp; omega⟩⟩
                    case measure => rw [HMs.out, g6]; simp [sliceLen]
                · obtain ⟨m6, hm6⟩ : ∃ m6, i + (n6 - (i + 1)) = m6 := ⟨_, rfl⟩
                  have HM6 : Hid (i + (n6 - (i + 1)) = m6) := hm6
                  have hm6l : m6 < n6 := by omega
                  clear hm6
                  go_wp2_with fail
                  go_region_law (first
                    | (refine step_appHeld _ (by rfl) _ _ 41 (by rfl) Try.underlying41 (.slice (some ⟨wc.heap.size, 0, none⟩) 0 0) [] 0 (by rfl) (by exact World.ownsRow_made wc #[] 0 (Nat.zero_le _) (Nat.zero_le _) rfl) ⟨gq, 0, none⟩ i k6 (vs.take (i * 2)) (by rfl) (by rw [List.length_take, HV.out.2.1]; omega) (by exact fun j u hj => HV.out.2.2.2 _ (by exact ⟨rfl, rfl, rfl, by simp, fun k hk => Below.heap_alloc _ _ _ hk⟩) j u (take_some hj)) (by exact fun u hu => HU.out u (List.mem_of_mem_take hu)) (by omega) ?_; rintro v4a w4 hown4 hg4 hv4; rw [Nat.zero_add, List.nil_append] at hown4; obtain ⟨b4, k4a, rfl⟩ := row_slice hown4; have hb4 : Below wc.heap.size wc w4 := row_new wc w4 (wc.alloc (.cells #[] 74)).drew rfl hg4; have z4 : w4.cell? ⟨g, 6, none⟩ = some (.slice (some ⟨gq, 0, none⟩) n6 k6) := (HCc.out w4 hb4).1; have hn4' : Hid (∀ b, (Value.slice b4 i k4a).ownBlock = some b → wc.heap.size ≤ b) := row_newer wc w4 (wc.alloc (.cells #[] 74)).drew rfl hg4 hv4)
                    | (refine step_appHeld _ (by rfl) _ _ 41 (by rfl) Try.underlying41 (.slice b4 i k4a) _ i (by rfl) (by exact hown4) ⟨gq, (i + 1) * 2, none⟩ (n6 - (i + 1)) (k6 - (i + 1)) (vs.drop ((i + 1) * 2)) (by rfl) (by rw [List.length_drop, HV.out.2.1]; omega) (by exact fun j u hj => drop_cell (HV.out.2.2.2 _ hb4) j u hj) (by exact fun u hu => HU.out u (List.mem_of_mem_drop hu)) (by omega) ?_; rintro v5a w5 hown5 hg5 hv5; rw [HM6.out] at hown5; obtain ⟨b5, k5a, rfl⟩ := row_slice hown5; have hb5 : Below wc.heap.size wc w5 := row_then hb4 hg5 hn4'.out; have z5 : w5.cell? ⟨g, 6, none⟩ = some (.slice (some ⟨gq, 0, none⟩) n6 k6) := (HCc.out w5 hb5).1; have f5 : w5.frozen? ⟨g, 6, none⟩ = false := (HCc.out w5 hb5).2; have hn5' : Hid (∀ b, (Value.slice b5 m6 k5a).ownBlock = some b → wc.heap.size ≤ b) := row_newest hb4 hn4'.out hv5))
                  all_goals
                    have HZ : Hid (∃ Tz, InAt w T g V true S A p l c body { sty with all := sty.all ++ [b], hold := fun n => if n = sty.all.length then none else sty.hold n } v1 v4'' (.slice b5 m6 k5a) (hs'.take i ++ hs'.drop (i + 1)) Tz (w5.setCell ⟨g, 6, none⟩ (.slice b5 m6 k5a))) := HA.out.less (i := i) (vs := vs) (by rw [← HV.out.2.2.1]; omega) HV.out.1 (by rw [← HV.out.2.2.1]; exact HV.out.2.1) hb5 (by rw [HB.out.2.2.2, HN4.out.1]) (by rw [← HV.out.2.2.1, HM6.out]; exact hown5) hn5'.out
                    have HMs : Hid ((w5.setCell ⟨g, 6, none⟩ (.slice b5 m6 k5a)).cell? ⟨g, 6, none⟩ = some (.slice b5 m6 k5a)) := World.cell?_setCell_same _ _ _ z5
                    obtain ⟨Tz, hz⟩ := HZ.out
                    have HZ2 := (show Hid _ from hz)
                    have HDD : Hid (sty.all.length + 1 + j ≤ 1073741824) := by have := HN4.out; have := HDj.out.1; show _ ≤ _; omega
                    clear hz HZ HA HV HU HCc hown4 hg4 hv4 hb4 hn4' hown5 hg5 hv5 hb5 hn5' z4
                    go_wp2
                    go_roundw
                    case rel => exact ⟨j, _, v4'', _, _, Tz, HZ2, ⟨HDj.out.2, by have := HDD.out; simp; omega⟩⟩
                    case measure => rw [HMs.out, g6]; simp [sliceLen]; omega
            · have hEq : sty = Y := HD.out.1.stop (by rw [HI.out.ends.held, ← HN4.out.1]; exact heldAt_none h1)
              have HR : Hid (InT11 REnd w g st T bs (.returned (.int .i64 0)) w') := (HFin w').out (by rw [← hEq]; exact HI.out.end (by rw [hEq]; exact HYF.out))
              clear HI HD HN4 HZ h1 hEq HYF HFin
              go_wp2
              go_ret
              exact HR.out
end Go.Proofs.Ytjokbikelklaiaa
