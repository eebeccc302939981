/-
  The contract of Out (the program's own end of a link).
-/
import Derived.Test.YtnbdbahfekneoabX11S
namespace Go.Proofs.Ytnbdbahfekneoab
open Go.RowKit Go.Shelf

attribute [local go_sem] Oper.semAt_some

theorem wpIn_then {F : Fence} {n : Nat} {P : Program} {c : Code} {a : Act} {w : World} {K : Act → World → Prop} {Q : Exit → Act → World → Prop} (h : c.wpIn F n P (Exit.then K fun _ _ _ => False) a w) : c.wpIn F n P (Exit.then K Q) a w := wpIn_mono h (fun e a w h => by
  cases e with
  | normal => exact h
  | _ => exact h.elim)
theorem wpIn_normal {F : Fence} {n : Nat} {P : Program} {c : Code} {a : Act} {w : World} {Q : Exit → Act → World → Prop} (h : c.wpIn F n P (Exit.then (fun a w => Q .normal a w) fun _ _ _ => False) a w) : c.wpIn F n P Q a w := wpIn_mono h (fun e a w h => by
  cases e with
  | normal => exact h
  | _ => exact h.elim)
theorem LS.from_le {st : LS} (h : st.Fine) : st.sure ≤ st.from ∧ st.from ≤ st.sent := by
  unfold LS.from
  have := h.sure
  split <;> omega
theorem LS.due_is {st : LS} (h : st.Fine) : st.due = min st.took.length (st.sure + st.win) := by
  unfold LS.due
  have := h.sent
  have := h.win
  omega

set_option maxRecDepth 100000 in
set_option maxHeartbeats 8000000 in
theorem p11out_in (m : Nat) (hm : 6 ≤ m) (g : Nat) (st : LS) (T : Nat → Prop) (w : World) (h : PEnd w g st T) :
    CallsIn Fence.wide m Try.prog 8 #[.pointer (some ⟨g, 0, none⟩)] w fun e w' => OutT11 PEnd w g st T e w' := by
  obtain ⟨hF, v1, bm, v6, h⟩ := h
  have h1 : 1 ≤ m := by omega
  have hgl := h.lt
  have HF0 : Hid (st.Fine ∧ PEndV w g st v1 bm v6 T) := ⟨hF, h⟩
  obtain ⟨W1, hW1⟩ : ∃ W1, w.alloc (.cells #[.pointer (some ⟨g, 0, none⟩)] 24) = W1 := ⟨_, rfl⟩
  obtain ⟨W2, hW2⟩ : ∃ W2, W1.alloc (.cells #[.slice none 0 0] 36) = W2 := ⟨_, rfl⟩
  have b1 : Below w.heap.size w W1 := by rw [← hW1]; exact balloc w _
  have b2 : Below W1.heap.size W1 W2 := by rw [← hW2]; exact balloc W1 _
  have z1 : W1.heap.size = w.heap.size + 1 := by rw [← hW1]; simp
  have z2 : W2.heap.size = w.heap.size + 1 + 1 := by rw [← hW2]; simp [z1]
  have x1 : W1.heap[w.heap.size]? = some (.cells #[.pointer (some ⟨g, 0, none⟩)] 24 (0, 0)) := by rw [← hW1]; exact heap_alloc_new w _
  have x2 : W2.heap[w.heap.size + 1]? = some (.cells #[.slice none 0 0] 36 (0, 0)) := by rw [← hW2, ← z1]; exact heap_alloc_new W1 _
  have x3 : W2.heap[w.heap.size]? = some (.cells #[.pointer (some ⟨g, 0, none⟩)] 24 (0, 0)) := (b2.block _ (by omega)).trans x1
  have HM : Hid (Calls Try.prog 19 #[.pointer (some ⟨g, 0, none⟩)] W1 fun e w' => e = .returned (.bool true) ∧ w' = W1) := p11made_any (h.below b1)
  have HD : Hid (Calls Try.prog 22 #[.pointer (some ⟨g, 0, none⟩)] W2 fun e w' => DueT st.from (min st.took.length (st.sure + st.win)) W2 e w') := p11due_any (h.below (bthen b1 b2))
  have c1 : W1.cell? ⟨w.heap.size, 0, none⟩ = some (.pointer (some ⟨g, 0, none⟩)) := by rw [cell_of_row W1 _ 0 _ _ _ x1]; rfl
  have c2 : W2.cell? ⟨w.heap.size, 0, none⟩ = some (.pointer (some ⟨g, 0, none⟩)) := by rw [cell_of_row W2 _ 0 _ _ _ x3]; rfl
  have HW : Hid (w.alloc (.cells #[.pointer (some ⟨g, 0, none⟩)] 24) = W1 ∧ W1.alloc (.cells #[.slice none 0 0] 36) = W2 ∧ W1.heap.size = w.heap.size + 1) := ⟨hW1, hW2, z1⟩
  obtain ⟨F, hFe⟩ : ∃ F, F = st.from := ⟨_, rfl⟩
  obtain ⟨E, hEe⟩ : ∃ E, E = min st.took.length (st.sure + st.win) := ⟨_, rfl⟩
  rw [← hFe, ← hEe] at HD
  have HE : Hid (F = st.from ∧ E = min st.took.length (st.sure + st.win) ∧ st.sure ≤ F ∧ F ≤ st.sent ∧ st.sent ≤ E ∧ E = st.due ∧ E ≤ st.took.length ∧ E ≤ 1073741824) := by
    have k1 := LS.from_le hF
    have k2 := LS.due_is hF
    have k3 := LS.due_le hF
    have k4 := h.few.1
    refine ⟨hFe, hEe, ?_, ?_, ?_, ?_, ?_, ?_⟩ <;> omega
  clear hW1 hW2 x1 h hF hFe hEe
  refine callsIn_of_wp_marks Try.func8 rfl trivial ?_ rfl
  simp only [Try.ntmps8, List.size_toArray, List.length_cons, List.length_nil, Nat.reduceAdd, Nat.reduceSub, Array.replicate_succ, Array.replicate_zero, List.push_toArray, List.append_toArray, List.nil_append, List.cons_append]
  gi_wp2_with fail
  rw [HW.out.1]
  refine ⟨trivial, (callsIn_wide.2 HM.out).mono ?_⟩
  rintro e w' ⟨rfl, hw'⟩
  have hw2 := hw'.symm
  subst hw2
  clear HM hw'
  gi_wp2_with fail
  rw [HW.out.2.1]
  refine ⟨trivial, (callsIn_wide.2 HD.out).mono ?_⟩
  rintro e W0 ⟨B1, B2, rfl, ⟨hB1, hB2⟩, hc1, hc2, hb0⟩
  clear HD c1
  have hsz := hb0.size
  have hB1l : B1 < W0.heap.size := World.block_lt_of_cell? _ _ hc1
  have hB2l : B2 < W0.heap.size := World.block_lt_of_cell? _ _ hc2
  have hbw : Below w.heap.size w W0 := bthen (bthen b1 b2) hb0
  have y2 : W0.heap[w.heap.size + 1]? = some (.cells #[.slice none 0 0] 36 (0, 0)) := (hb0.block _ (by omega)).trans x2
  have y3 : W0.heap[w.heap.size]? = some (.cells #[.pointer (some ⟨g, 0, none⟩)] 24 (0, 0)) := (hb0.block _ (by omega)).trans x3
  have hP0 : PEndV W0 g st v1 bm v6 T := HF0.out.2.below hbw
  have yx : W0.cell? ⟨w.heap.size, 0, none⟩ = some (.pointer (some ⟨g, 0, none⟩)) := by rw [cell_of_row W0 _ 0 _ _ _ y3]; rfl
  have hNB : ¬ IsB W0 (w.heap.size + 1) := IsB.not y2 (by decide)
  have hI0 : OutI W0 g (w.heap.size + 1) st v1 bm v6 st.sent [] (.slice none 0 0) W0 := ⟨hP0.heap, Only.refl _ _, y2, RowF.nil _ _⟩
  clear x2 x3 y2 y3 c2 hb0 b1 b2
  gi_wp2_with fail
  refine wpIn_rangeFunc_ownF rfl h1 (gf := 42) (lb := #[.pointer (some ⟨B1, 0, none⟩), .pointer (some ⟨B2, 0, none⟩)]) rfl trivial (enters_of Try.func42 (by kernel_rfl) rfl)
    (due_stops (m - 1) (by omega) B1 B2 F E W0 (by have := HE.out; omega) (by have := HE.out; omega) hc1 hc2) (fun hab hbc => ⟨hbc.1.trans hab.1, hbc.2.trans hab.2⟩)
    (fun W l o o' hl ho _ _ => by
      have hlt := (Array.getElem?_eq_some_iff.1 ho).1
      exact ⟨World.cell?_of_block ((grownBy_putObj' W l o').block B1 (by omega) (by simp; omega)), World.cell?_of_block ((grownBy_putObj' W l o').block B2 (by omega) (by simp; omega))⟩) (Below.refl _ _) (fun _ => rfl)
    (fun pre W => ∃ v, OutI W0 g (w.heap.size + 1) st v1 bm v6 (sentAft st.sent pre) (pre.map fun y => st.data y.1) v W)
    (fun _ _ _ => False)
    (fun s A B row hs hg hr => by
      obtain ⟨v, hI⟩ := hs
      exact ⟨v, hI.walk (by omega) (by omega) hg hr⟩)
    (fun _ _ _ _ _ hs _ _ => hs)
    ⟨_, hI0⟩
    (fun x => { tmps := #[.pointer (some ⟨g, 0, none⟩), .pointer (some ⟨w.heap.size, 0, none⟩), .slice none 0 0, .pointer (some ⟨w.heap.size + 1, 0, none⟩), .int .i64 (x.1 : Int), .pointer (some ⟨g, 0, none⟩), .bool true, .bool false, .pointer (some ⟨g, 0, none⟩), .func (.func 42) #[] #[.pointer (some ⟨B1, 0, none⟩), .pointer (some ⟨B2, 0, none⟩)], .int .i64 (x.1 : Int), undef, undef, undef, undef, undef, undef, undef, undef, undef, undef, undef, undef, undef, undef, undef, undef, undef, undef, undef, undef, undef, undef, undef, undef, undef, undef, undef, undef, undef, undef, undef, undef, undef, undef, undef, undef, undef, undef, undef, undef, undef, undef, undef, undef, undef, undef, undef, undef, undef, undef, undef], defers := [] }) ?assign ?body ?done ?stop
  case assign =>
    intro l x W K hK
    gi_wp2
    exact hK
  case stop =>
    rintro D c pre W _ _ h _
    exact h.elim
  case body =>
    rintro l pre ⟨x, hx1, hx2⟩ W ⟨v, hI⟩ hlen
    have hne : w.heap.size + 1 ≠ g := by omega
    obtain ⟨fs, hfs⟩ : ∃ fs, fs = pre.map (fun y => st.data y.1) := ⟨_, rfl⟩
    rw [← hfs] at hI
    obtain ⟨va, vc, rfl, -, -⟩ := hI.row.slice
    obtain ⟨sn, hsn⟩ : ∃ sn, sn = sentAft st.sent pre := ⟨_, rfl⟩
    have hsnE := sentAft_le (F := F) (E := E) (s := st.sent) (by have := HE.out; omega) pre.length pre rfl
    rw [← hsn] at hI
    rw [← hsn] at hsnE
    have HI : Hid (OutI W0 g (w.heap.size + 1) st v1 bm v6 sn fs (.slice va fs.length vc) W ∧ fs = pre.map (fun y => st.data y.1) ∧ sn = sentAft st.sent pre) := ⟨hI, hfs, hsn⟩
    have hfl : fs.length ≤ 2147483648 := by
      rw [hfs, List.length_map]
      omega
    have hown := hI.row.cells
    have hWs := hI.only.size
    have hTo := hP0.old
    have hV : PEndV W g { st with sent := sn } v1 bm v6 T := hP0.outs (st' := { st with sent := sn }) hI.only (fun b e => by
      rcases e with e | e
      · exact .inl e
      · exact .inr (fun q => by have := HF0.out.2.old b q; omega)) (fun b e => by
      rcases e with e | e
      · rw [e]; exact IsB.not hP0.heap (by decide)
      · rw [e]; exact hNB) hI.heap rfl rfl rfl rfl rfl (by
      have hf := HF0.out.1
      have := HE.out
      have := hf.sure
      exact ⟨show st.sure ≤ sn by omega, show sn ≤ st.took.length by omega, show sn ≤ st.sure + st.win by omega, hf.w16, hf.told⟩)
    have hqi : x - st.sure < (st.took.drop st.sure).length := by rw [List.length_drop]; have := HE.out; omega
    obtain ⟨qb, qo, qc, p, pm, pc, e1, q2, -, q4⟩ := hV.queue.at (i := x - st.sure) hqi
    have e0 : (st.took.drop st.sure).getD (x - st.sure) [] = st.took.getD x [] := by
      unfold List.getD
      rw [List.getElem?_drop, show st.sure + (x - st.sure) = x by have := HE.out; omega]
    rw [e0] at q4
    have hqT : T qb := (hP0.foot qb).2 (.inr (.inr (.inl (by rw [e1]; rfl))))
    have hqb := HF0.out.2.old qb hqT
    have hqg : qb ≠ g := fun e => hP0.apart.2.1.1 (by rw [e1, e]; rfl)
    have g1 : W.cell? ⟨g, 1, none⟩ = some v1 := hV.cell 1
    rw [e1] at g1
    have g2 : W.cell? ⟨g, 2, none⟩ = some (.int .i64 (st.sure : Int)) := hV.cell 2
    have gx : W.cell? ⟨w.heap.size, 0, none⟩ = some (.pointer (some ⟨g, 0, none⟩)) := hI.only.cell yx (fun (e : w.heap.size = g ∨ w.heap.size = w.heap.size + 1) => by omega)
    have hr : rightFr true (x : Int) (st.all.length : Int) (st.took.getD x []).length = true := by
      have k1 := HE.out
      have k2 := HF0.out.2.few
      have k3 := HF0.out.2.short (st.took.getD x []) (by simp [List.getD, show x < st.took.length by omega])
      exact (rightFr_iff _ _ _ _).2 ⟨by omega, by omega, by omega, by omega, k3, .inl rfl⟩
    have hEn : ∀ wx : World, Below W.heap.size W wx → Calls Try.prog 23 #[.pointer (some ⟨g, 0, none⟩), .agg #[.bool true, .int .i64 (x : Int), .int .i64 0, .slice p pm pc]] wx fun e w' => FrT11 (st.data x) wx e w' := fun wx hb => p11enc_any (hV.below hb) true x p pm pc (st.took.getD x []) (q4.below hb) hr
    have hBB : W0.heap.size ≤ W.heap.size := hWs
    have n2 : (Value.slice va fs.length vc).ownBlock ≠ some w.heap.size ∧ (Value.slice va fs.length vc).ownBlock ≠ some g ∧ (Value.slice va fs.length vc).ownBlock ≠ some qb ∧ (Value.slice va fs.length vc).ownBlock ≠ some (w.heap.size + 1) := by
      refine ⟨fun e => ?_, fun e => ?_, fun e => ?_, fun e => ?_⟩
      all_goals
        have := (hown _ e).1
        omega
    gi_wp2_with fail
    refine wpIn_then (out_r6 l _ g w.heap.size (w.heap.size + 1) x st.sure (x - st.sure) W0.heap.size qb qo _ qc p pm pc va fs.length vc (st.data x) fs _ _ _ _ _ _ _ _ _ _ _ _ _ _ _ _ _ _ _ _ _ _ _ _ _ _ _ _ _ _ _ _ _ _ _ _ _ _ _ _ _ _ _ _ _ _ _ _ _ _ _ _ _ _ _ _ _ _ W _ gx hI.out g1 g2 q2 (by have := HE.out; omega) hqi (by have := HE.out; omega) ⟨by omega, by omega, by omega⟩ n2 hEn hI.row hBB (by omega) hfl ?hK)
    case hK =>
      intro c11 c12 c13 c14 c15 c16 c17 c18 c19 c20 c21 c22 c23 c24 c25 c26 c27 c28 c29 w' v' f5 f6 f4
      have hgW : w'.heap[g]? = some (.cells (pcells { st with sent := sn } v1 bm v6) 46 (0, 0)) := (f4.block g (by omega) (fun e => by
        rcases e with e | e
        · exact hne e.symm
        · have := (hown g e).1; omega)).trans hI.heap
      have k3 : w'.cell? ⟨g, 3, none⟩ = some (.int .i64 (sn : Int)) := by rw [cell_of_row w' g 3 _ _ _ hgW]; rfl
      have k4 := frozen_of_row w' g 3 _ _ hgW
      have kx : w'.cell? ⟨w.heap.size, 0, none⟩ = some (.pointer (some ⟨g, 0, none⟩)) := f4.cell gx (fun (e : w.heap.size = w.heap.size + 1 ∨ (Value.slice va fs.length vc).ownBlock = some w.heap.size) => by
        rcases e with e | e
        · omega
        · exact n2.1 e)
      obtain ⟨m1, m2⟩ := hI.round (x := x) (by omega) (by omega) hne f5 f6 f4
      have HFin : Hid (KeepsOthers W (w'.drew.setCell ⟨g, 3, none⟩ (.int .i64 ((max sn (x + 1) : Nat) : Int))) ∧ KpDue B1 B2 W (w'.drew.setCell ⟨g, 3, none⟩ (.int .i64 ((max sn (x + 1) : Nat) : Int))) ∧ ∃ v, OutI W0 g (w.heap.size + 1) st v1 bm v6 (sentAft st.sent (pre ++ [(⟨x, hx1, hx2⟩ : DueX F E)])) ((pre ++ [(⟨x, hx1, hx2⟩ : DueX F E)]).map fun y => st.data y.1) v (w'.drew.setCell ⟨g, 3, none⟩ (.int .i64 ((max sn (x + 1) : Nat) : Int)))) := by
        refine ⟨m2, ⟨?_, ?_⟩, v', ?_⟩
        · exact (m1.only.cell hc1 (fun (e : B1 = g ∨ B1 = w.heap.size + 1) => by omega)).trans (hI.only.cell hc1 (fun (e : B1 = g ∨ B1 = w.heap.size + 1) => by omega)).symm
        · exact (m1.only.cell hc2 (fun (e : B2 = g ∨ B2 = w.heap.size + 1) => by omega)).trans (hI.only.cell hc2 (fun (e : B2 = g ∨ B2 = w.heap.size + 1) => by omega)).symm
        · rw [sentAft_snoc, List.map_append, ← HI.out.2.1, ← HI.out.2.2]
          exact m1
      gi_wp2_with fail
      refine wpIn_normal (out_r7 l _ g w.heap.size x sn _ _ _ _ _ _ _ _ _ _ _ _ _ _ _ _ _ _ _ _ _ _ _ _ _ _ _ _ _ _ _ _ _ _ _ _ _ _ _ _ _ _ _ _ _ _ _ _ _ _ _ _ _ _ _ _ _ _ _ _ w' _ kx k3 k4 (by have := HE.out; omega) ?hK7)
      case hK7 =>
        intro c30 c31 c32 c33 c34 c35 c36 c37 c38 c39
        exact HFin.out
  case done =>
    rintro D xs W hD hS ⟨v, hI⟩ hK
    have hE0 := HE.out
    have hlen := hS.len
    have hmap : xs.map (fun y => st.data y.1) = st.outD := by
      have : xs.map (fun y => st.data y.1) = (xs.map (fun y => y.1)).map st.data := by rw [List.map_map]; rfl
      rw [this, show xs.map (fun y => y.1) = List.range' F (E - F) from hS]
      unfold LS.outD
      rw [← hE0.1, ← hE0.2.2.2.2.2.1]
    have hsn : sentAft st.sent xs = st.due := by
      rw [sentAft_runs (E - F) xs hS, ← hE0.2.2.2.2.2.1]
      split <;> omega
    rw [hmap, hsn] at hI
    obtain ⟨va, vc, rfl, -, -⟩ := hI.row.slice
    obtain ⟨n, hn⟩ : ∃ n, n = st.outD.length := ⟨_, rfl⟩
    rw [← hn] at hI
    have HI : Hid (OutI W0 g (w.heap.size + 1) st v1 bm v6 st.due st.outD (.slice va n vc) W ∧ n = st.outD.length) := ⟨hI, hn⟩
    have co : W.cell? ⟨w.heap.size + 1, 0, none⟩ = some (.slice va n vc) := by rw [cell_of_row W _ 0 _ _ _ hI.out]; rfl
    have cx : W.cell? ⟨w.heap.size, 0, none⟩ = some (.pointer (some ⟨g, 0, none⟩)) := hI.only.cell yx (fun (e : w.heap.size = g ∨ w.heap.size = w.heap.size + 1) => by omega)
    have cw : W.cell? ⟨g, 7, none⟩ = some (.bool st.owes) := by rw [cell_of_row W g 7 _ _ _ hI.heap]; rfl
    obtain ⟨ow, how⟩ : ∃ ow, ow = st.owes := ⟨_, rfl⟩
    rw [← how] at cw
    have HOW : Hid (ow = st.owes) := how
    clear hc1 hc2 hlen hmap hsn hI0 how hn hE0
    by_cases hn0 : n = 0
    · subst hn0
      cases ow with
      | false =>
        have hOF : st.outF = st.outD := by unfold LS.outF; rw [if_neg (fun c => by rw [← HOW.out] at c; exact absurd c.2 (by simp))]
        have HO : Hid (OutI W0 g (w.heap.size + 1) st v1 bm v6 st.due st.outF (.slice va 0 vc) W) := by show OutI _ _ _ _ _ _ _ _ _ _ _; rw [hOF]; exact HI.out.1
        have hKt : W.heap[D]? = some (.deferred (some [])) := hK
        clear HI hI hOF hK
        have HOd : Hid (OutI W0 g (w.heap.size + 1) st v1 bm v6 st.due st.outF (.slice va 0 vc) W.drew) := HO.out.walk (row := none) (by omega) (by omega) ⟨rfl, rfl, rfl, Nat.le_refl _, fun _ _ _ => rfl⟩ (fun r e => by cases e)
        have t1 : W.cell? ⟨w.heap.size, 0, none⟩ = some (.pointer (some ⟨g, 0, none⟩)) := HO.out.only.cell yx (fun (e : w.heap.size = g ∨ w.heap.size = w.heap.size + 1) => by omega)
        have t7 : W.cell? ⟨g, 7, none⟩ = some (.bool st.owes) := by rw [cell_of_row _ g 7 _ _ _ HO.out.heap]; rfl
        have t8 : W.cell? ⟨g, 8, none⟩ = some (.bool st.tick) := by rw [cell_of_row _ g 8 _ _ _ HO.out.heap]; rfl
        have f7 := frozen_of_row _ g 7 _ _ HO.out.heap
        have f8 := frozen_of_row _ g 8 _ _ HO.out.heap
        have ro : ((W.setCell ⟨g, 7, none⟩ (.bool false)).setCell ⟨g, 8, none⟩ (.bool false)).cell? ⟨w.heap.size + 1, 0, none⟩ = some (.slice va 0 vc) := by
          rw [World.cell?_setCell_other _ _ _ _ (by simp), World.cell?_setCell_other _ _ _ _ (by simp), cell_of_row _ _ 0 _ _ _ HO.out.out]
          rfl
        have HKt : Hid (((W.setCell ⟨g, 7, none⟩ (.bool false)).setCell ⟨g, 8, none⟩ (.bool false)).drew.heap[D]? = some (.deferred (some []))) := (KeepsOthers.setCell _ ⟨g, 8, none⟩ _).same D _ ((KeepsOthers.setCell W.drew ⟨g, 7, none⟩ (.bool false)).same D _ hKt rfl) rfl
        have HFin : Hid (OutT11 PEnd w g st T (.returned (.slice va 0 vc)) (((W.setCell ⟨g, 7, none⟩ (.bool false)).setCell ⟨g, 8, none⟩ (.bool false)).drew.putObj D (.deferred none))) := HOd.out.fin HF0.out.1 HF0.out.2 hbw (by omega) (by omega) hNB hD hKt
        clear HO HOd hKt
        gi_wp2_with fail
        refine wpIn_wide.2 ?_
        go_region
        all_goals
          gi_wp2
          refine ⟨by simp, .inl ⟨_, _, rfl, run_takeDeferred HKt.out, ?_⟩⟩
          exact ⟨_, results_tmp (t := 2) rfl _ _ _, HFin.out⟩
      | true =>
        have hOF : st.outF = [⟨false, 0, st.all.length, []⟩] ∧ st.outD = [] := by
          have hnil : st.outD = [] := List.eq_nil_of_length_eq_zero HI.out.2.symm
          unfold LS.outF
          rw [if_pos ⟨hnil, HOW.out.symm⟩]
          exact ⟨rfl, hnil⟩
        have hTo := HF0.out.2.old
        have hWs := hI.only.size
        have hV : PEndV W g { st with sent := st.due } v1 bm v6 T := hP0.outs (st' := { st with sent := st.due }) hI.only (fun b e => by
          rcases e with e | e
          · exact .inl e
          · exact .inr (fun q => by have := hTo b q; omega)) (fun b e => by
          rcases e with e | e
          · rw [e]; exact IsB.not hP0.heap (by decide)
          · rw [e]; exact hNB) hI.heap rfl rfl rfl rfl rfl (by
          have hf := HF0.out.1
          have hd := LS.due_le hf
          have := hf.sure
          exact ⟨show st.sure ≤ st.due by omega, hd.2.1, hd.2.2, hf.w16, hf.told⟩)
        have hr : rightFr false ((0 : Nat) : Int) (st.all.length : Int) ([] : List Int).length = true := (rightFr_iff _ _ _ _).2 ⟨by omega, by omega, by omega, by have := HF0.out.2.few; omega, by simp, .inr ⟨rfl, rfl⟩⟩
        have hrow := hI.row
        rw [hOF.2] at hrow
        obtain ⟨vs, hvs, hnext⟩ := hrow.own
        have hown := hrow.cells
        have HEn : Hid (∀ wx : World, Below W.heap.size W wx → Calls Try.prog 23 #[.pointer (some ⟨g, 0, none⟩), .agg #[.bool false, .int .i64 0, .int .i64 0, .slice none 0 0]] wx fun e w' => ∃ za zl zc, e = .returned (.slice za zl zc) ∧ Hid (Below W.heap.size W w' ∧ ∃ ys, BytG w' za zl zc ys ∧ IsFr ⟨false, 0, st.all.length, []⟩ ys) ∧ w'.cell? ⟨w.heap.size + 1, 0, none⟩ = some (.slice va 0 vc) ∧ ∀ o : Obj, (w'.alloc o).cell? ⟨w.heap.size + 1, 0, none⟩ = some (.slice va 0 vc)) := fun wx hb => by
          refine (p11enc_any (hV.below hb) false 0 none 0 0 [] ⟨Byts.nil _, fun _ => rfl, fun _ e => (by cases e)⟩ hr).mono ?_
          rintro e w' ⟨za, zl, zc, ys, rfl, y1, y2, y3⟩
          have hb2 := bthen hb y3
          have oc : w'.cell? ⟨w.heap.size + 1, 0, none⟩ = some (.slice va 0 vc) := bkeep hb2 co rfl
          exact ⟨za, zl, zc, rfl, ⟨hb2, ys, y1.toBytG, y2⟩, oc, fun o => by rw [World.cell?_alloc_lt _ _ _ (World.block_lt_of_cell? _ _ oc)]; exact oc⟩
        have HNx : Hid (∀ (w2 w3 : World) (v' : Value) (za : Option Addr) (zl zc : Nat), Below W.heap.size W w2 → (∃ ys, BytG w2 za zl zc ys ∧ IsFr ⟨false, 0, st.all.length, []⟩ ys) → w3.ownsRow 0 32 1 v' (0 + 1) (vs ++ [.slice za zl zc]) → (w2.alloc (.cells #[.slice za zl zc] 32)).grownBy w3 (Value.slice va 0 vc).ownBlock → (v'.ownBlock = (Value.slice va 0 vc).ownBlock ∨ v'.ownBlock = some (w2.alloc (.cells #[.slice za zl zc] 32)).heap.size) → (w3.cell? ⟨w.heap.size + 1, 0, none⟩ = some (.slice va 0 vc) ∧ w3.frozen? ⟨w.heap.size + 1, 0, none⟩ = false) ∧ OutI W0 g (w.heap.size + 1) st v1 bm v6 st.due st.outF v' (w3.setCell ⟨w.heap.size + 1, 0, none⟩ v') ∧ (w3.setCell ⟨w.heap.size + 1, 0, none⟩ v').heap[D]? = some (.deferred (some []))) := fun w2 w3 v' za zl zc hb hy hown3 hg hv => by
          obtain ⟨ys, y1, y2⟩ := hy
          have hb3 := bthen hb (balloc w2 (.cells #[.slice za zl zc] 32))
          have hs3 := hb3.size
          have hr3 := hnext _ w3 v' za zl zc ys ⟨false, 0, st.all.length, []⟩ hb3 (y1.below (balloc w2 _)) y2 hown3 hg hv hWs
          have nown : ∀ b, b < W0.heap.size → (Value.slice va 0 vc).ownBlock ≠ some b := fun b hb e => by have := (hown b e).1; omega
          have o3 : Only (fun b => (Value.slice va 0 vc).ownBlock = some b) W w3 := (Only.of_below hb3).trans (Only.of_grown hg (fun b e => e)) (fun b e => .inl e)
          have hBh : w3.heap[w.heap.size + 1]? = some (.cells #[.slice va 0 vc] 36 (0, 0)) := (o3.block _ (by omega) (nown _ (by omega))).trans HI.out.1.out
          have o4 : Only (fun b => b = w.heap.size + 1) w3 (w3.setCell ⟨w.heap.size + 1, 0, none⟩ v') := Only.of_grown (grown_set w3 _ 0 v') (fun b e => by cases e; rfl)
          refine ⟨⟨by rw [cell_of_row w3 _ 0 _ _ _ hBh]; rfl, frozen_of_row w3 _ 0 _ _ hBh⟩, ⟨?_, ?_, ?_, ?_⟩, ?_⟩
          · rw [o4.block g (by have := o3.size; omega) (by omega), o3.block g (by omega) (nown _ (by omega))]
            exact HI.out.1.heap
          · refine (HI.out.1.only.trans o3 (fun q e => .inr ?_)).trans o4 (fun q e => .inl (.inr e))
            have := (hown q e).1
            omega
          · rw [heap_setCell_same w3 _ 0 _ _ v' hBh]
            rfl
          · rw [hOF.1]
            exact hr3.only o4 (fun b e => by omega) (fun b e => by rw [e]; exact IsB.not hBh (by decide))
          · have k1 : KeepsOthers W w3 := keeps_only o3 (fun b e => (hown b e).2)
            exact (KeepsOthers.setCell w3 ⟨w.heap.size + 1, 0, none⟩ v').same D _ (k1.same D _ hK rfl) rfl
        have HR0 : Hid (∀ w2 : World, Below W.heap.size W w2 → ∀ o : Obj, (w2.alloc o).ownsRow 0 32 1 (.slice va 0 vc) 0 vs) := fun w2 hb o => World.ownsRow.alloc (rowOwn_below hvs hb) _
        have HDr : Hid (Below W.heap.size W W.drew) := below_drewN (Below.refl _ W) 1
        clear hI HI hV hrow hnext hvs hown hOF hK
        gi_wp2_with fail
        refine wpIn_then ?_
        refine wpIn_wide.2 ?_
        go_region_law (first
          | (refine step_appRow _ (by rfl) _ _ 36 (by rfl) Try.underlying36 (.slice va 0 vc) vs 0 (by rfl) (by exact HR0.out w2 hb2.out.1 _) w2.heap.size (.slice za zl zc) (by rfl) (by simp) (by rfl) (by omega) ?_; rintro v3 w3 hown3 hg3 hv3; obtain ⟨b3, k3, rfl⟩ := row_slice hown3; obtain ⟨⟨z3, f3⟩, hO3, hK3⟩ := HNx.out w2 w3 _ za zl zc hb2.out.1 hb2.out.2 hown3 hg3 hv3)
          | (go_simp; go_at_call 23; with_reducible refine Calls.mono (HEn.out _ ?_) ?_; (focus (exact HDr.out)); rintro e w2 ⟨za, zl, zc, rfl, hb2, oc2, oc2a⟩))
        all_goals
          have HO0 : Hid (OutI W0 g (w.heap.size + 1) st v1 bm v6 st.due st.outF (.slice b3 1 k3) (w3.setCell ⟨w.heap.size + 1, 0, none⟩ (.slice b3 1 k3)) ∧ (w3.setCell ⟨w.heap.size + 1, 0, none⟩ (.slice b3 1 k3)).heap[D]? = some (.deferred (some []))) := ⟨hO3, hK3⟩
          clear HNx HR0 HEn hO3 hK3 hown3 hg3 hv3 hb2 oc2 oc2a co cx cw HDr
          obtain ⟨Wt, hWt⟩ : ∃ Wt, w3.setCell ⟨w.heap.size + 1, 0, none⟩ (.slice b3 1 k3) = Wt := ⟨_, rfl⟩
          have HO : Hid (OutI W0 g (w.heap.size + 1) st v1 bm v6 st.due st.outF (.slice b3 1 k3) Wt) := by rw [← hWt]; exact HO0.out.1
          have hKt : Wt.heap[D]? = some (.deferred (some [])) := by rw [← hWt]; exact HO0.out.2
          rw [hWt]
          clear hWt HO0 z3 f3
          have HOd : Hid (OutI W0 g (w.heap.size + 1) st v1 bm v6 st.due st.outF (.slice b3 1 k3) Wt.drew) := HO.out.walk (row := none) (by omega) (by omega) ⟨rfl, rfl, rfl, Nat.le_refl _, fun _ _ _ => rfl⟩ (fun r e => by cases e)
          have t1 : Wt.cell? ⟨w.heap.size, 0, none⟩ = some (.pointer (some ⟨g, 0, none⟩)) := HO.out.only.cell yx (fun (e : w.heap.size = g ∨ w.heap.size = w.heap.size + 1) => by omega)
          have t7 : Wt.cell? ⟨g, 7, none⟩ = some (.bool st.owes) := by rw [cell_of_row _ g 7 _ _ _ HO.out.heap]; rfl
          have t8 : Wt.cell? ⟨g, 8, none⟩ = some (.bool st.tick) := by rw [cell_of_row _ g 8 _ _ _ HO.out.heap]; rfl
          have f7 := frozen_of_row _ g 7 _ _ HO.out.heap
          have f8 := frozen_of_row _ g 8 _ _ HO.out.heap
          have ro : ((Wt.setCell ⟨g, 7, none⟩ (.bool false)).setCell ⟨g, 8, none⟩ (.bool false)).cell? ⟨w.heap.size + 1, 0, none⟩ = some (.slice b3 1 k3) := by
            rw [World.cell?_setCell_other _ _ _ _ (by simp), World.cell?_setCell_other _ _ _ _ (by simp), cell_of_row _ _ 0 _ _ _ HO.out.out]
            rfl
          have HKt : Hid (((Wt.setCell ⟨g, 7, none⟩ (.bool false)).setCell ⟨g, 8, none⟩ (.bool false)).drew.heap[D]? = some (.deferred (some []))) := (KeepsOthers.setCell _ ⟨g, 8, none⟩ _).same D _ ((KeepsOthers.setCell Wt.drew ⟨g, 7, none⟩ (.bool false)).same D _ hKt rfl) rfl
          have HFin : Hid (OutT11 PEnd w g st T (.returned (.slice b3 1 k3)) (((Wt.setCell ⟨g, 7, none⟩ (.bool false)).setCell ⟨g, 8, none⟩ (.bool false)).drew.putObj D (.deferred none))) := HOd.out.fin HF0.out.1 HF0.out.2 hbw (by omega) (by omega) hNB hD hKt
          clear HO HOd hKt
          gi_wp2_with fail
          refine wpIn_wide.2 ?_
          go_region
          all_goals
            gi_wp2
            refine ⟨by simp, .inl ⟨_, _, rfl, run_takeDeferred HKt.out, ?_⟩⟩
            exact ⟨_, results_tmp (t := 2) rfl _ _ _, HFin.out⟩
    · have hn0d : ((n : Int) == 0) = false := by simp [hn0]
      have hOF : st.outF = st.outD := by unfold LS.outF; rw [if_neg (fun c => hn0 (by rw [HI.out.2, c.1]; rfl))]
      have HO : Hid (OutI W0 g (w.heap.size + 1) st v1 bm v6 st.due st.outF (.slice va n vc) W) := by show OutI _ _ _ _ _ _ _ _ _ _ _; rw [hOF]; exact HI.out.1
      have hKt : W.heap[D]? = some (.deferred (some [])) := hK
      clear HI hI hOF hK
      have HOd : Hid (OutI W0 g (w.heap.size + 1) st v1 bm v6 st.due st.outF (.slice va n vc) W.drew) := HO.out.walk (row := none) (by omega) (by omega) ⟨rfl, rfl, rfl, Nat.le_refl _, fun _ _ _ => rfl⟩ (fun r e => by cases e)
      have t1 : W.cell? ⟨w.heap.size, 0, none⟩ = some (.pointer (some ⟨g, 0, none⟩)) := HO.out.only.cell yx (fun (e : w.heap.size = g ∨ w.heap.size = w.heap.size + 1) => by omega)
      have t7 : W.cell? ⟨g, 7, none⟩ = some (.bool st.owes) := by rw [cell_of_row _ g 7 _ _ _ HO.out.heap]; rfl
      have t8 : W.cell? ⟨g, 8, none⟩ = some (.bool st.tick) := by rw [cell_of_row _ g 8 _ _ _ HO.out.heap]; rfl
      have f7 := frozen_of_row _ g 7 _ _ HO.out.heap
      have f8 := frozen_of_row _ g 8 _ _ HO.out.heap
      have ro : ((W.setCell ⟨g, 7, none⟩ (.bool false)).setCell ⟨g, 8, none⟩ (.bool false)).cell? ⟨w.heap.size + 1, 0, none⟩ = some (.slice va n vc) := by
        rw [World.cell?_setCell_other _ _ _ _ (by simp), World.cell?_setCell_other _ _ _ _ (by simp), cell_of_row _ _ 0 _ _ _ HO.out.out]
        rfl
      have HKt : Hid (((W.setCell ⟨g, 7, none⟩ (.bool false)).setCell ⟨g, 8, none⟩ (.bool false)).drew.heap[D]? = some (.deferred (some []))) := (KeepsOthers.setCell _ ⟨g, 8, none⟩ _).same D _ ((KeepsOthers.setCell W.drew ⟨g, 7, none⟩ (.bool false)).same D _ hKt rfl) rfl
      have HFin : Hid (OutT11 PEnd w g st T (.returned (.slice va n vc)) (((W.setCell ⟨g, 7, none⟩ (.bool false)).setCell ⟨g, 8, none⟩ (.bool false)).drew.putObj D (.deferred none))) := HOd.out.fin HF0.out.1 HF0.out.2 hbw (by omega) (by omega) hNB hD hKt
      clear HO HOd hKt
      gi_wp2_with fail
      refine wpIn_wide.2 ?_
      go_region
      all_goals
        gi_wp2
        refine ⟨by simp, .inl ⟨_, _, rfl, run_takeDeferred HKt.out, ?_⟩⟩
        exact ⟨_, results_tmp (t := 2) rfl _ _ _, HFin.out⟩
end Go.Proofs.Ytnbdbahfekneoab
