/-
  The statement TapeEven holds of the code at the commit that is named beside it, for every input.
-/
import Derived.Test.YtfafbggijhghcaaRows
import Derived.Test.YtfafbggijhghcaaTapeF
import Derived.Test.YtfafbggijhghcaaTapeG
import Derived.WalkKit
import Derived.ProofKit
import Derived.OpenShut
import Derived.ShutString
import Derived.ChangeOld
import Derived.Below
import Derived.Deep.Cut
import Derived.Deep.DeepCutAuto
import Derived.Deep.RegionWith
import Derived.BigRegion
namespace Go.Proofs.Ytfafbggijhghcaa.tapeEven
open Go.ChangeShapes Go.WideShapes Go.ChangeAt Go.RowKit
open Go.ChangeMaps (open_string shut_string)
set_option linter.unusedVariables false

theorem own : ownKnob Try.prog.godebug = none := by kernel_rfl
theorem laidOut : laidOutB Try.prog = true := by kernel_rfl

/-- Block g holds these whole numbers at its head, and may be written. -/
def IBlk (w : World) (g : Nat) (L : List Int) : Prop := ∃ cur : Array Value, w.heap[g]? = some (.cells cur 3 (0, 0)) ∧ cur.toList.take L.length = L.map (Value.int .i64)

theorem IBlk.cell {w : World} {g : Nat} {L : List Int} (h : IBlk w g L) {j : Nat} (hj : j < L.length) : w.cell? ⟨g, j, none⟩ = some (.int .i64 (L.getD j 0)) := by
  obtain ⟨cur, h1, h2⟩ := h
  rw [cell_of_row w g j _ _ _ h1]
  have h3 : (cur.toList.take L.length)[j]? = (L.map (Value.int .i64))[j]? := by rw [h2]
  rw [List.getElem?_take, if_pos hj] at h3
  rw [← Array.getElem?_toList, h3]
  simp [List.getD, hj]
theorem IBlk.frozen {w : World} {g : Nat} {L : List Int} (h : IBlk w g L) (j : Nat) : w.frozen? ⟨g, j, none⟩ = false := by
  obtain ⟨cur, h1, _⟩ := h
  exact frozen_of_row w g j _ _ h1
theorem IBlk.lt {w : World} {g : Nat} {L : List Int} (h : IBlk w g L) : g < w.heap.size := by
  obtain ⟨cur, h1, _⟩ := h
  exact (Array.getElem?_eq_some_iff.1 h1).1
theorem IBlk.set {w : World} {g : Nat} {L : List Int} (h : IBlk w g L) (j : Nat) (x : Int) : IBlk (w.setCell ⟨g, j, none⟩ (.int .i64 x)) g (L.set j x) := by
  obtain ⟨cur, h1, h2⟩ := h
  refine ⟨cur.setIfInBounds j (.int .i64 x), heap_setCell_same w g j _ _ (.int .i64 x) h1, ?_⟩
  rw [Array.toList_setIfInBounds, List.length_set, List.take_set, h2, List.map_set]
theorem IBlk.below {w w' : World} {g : Nat} {L : List Int} (h : IBlk w g L) (hb : Below w.heap.size w w') : IBlk w' g L := by
  have hl := IBlk.lt h
  obtain ⟨cur, h1, h2⟩ := h
  exact ⟨cur, (hb.block g hl).trans h1, h2⟩
theorem IBlk.grown {w w' : World} {g k : Nat} {L : List Int} (h : IBlk w g L) (hg : w.grownBy w' (some k)) (hne : g ≠ k) : IBlk w' g L := by
  have hl := IBlk.lt h
  obtain ⟨cur, h1, h2⟩ := h
  exact ⟨cur, (hg.block g hl (fun e => hne (by simpa using e))).trans h1, h2⟩

theorem infoI : (Try.prog.info? 3).map (fun i => (i.zero, i.size, i.bytes)) = some (some (.int .i64 0), 1, 8) := by kernel_rfl

theorem wpList_mkI (w : World) {ops : Array Oper} {rest : List Oper} {o : Oper} {a : Act} {Q : Exit → Act → World → Prop}
    (hg : o.guard = none) (l c : Operand) (t : TypeId) (hop : o.op = Op.makeSlice t l c) (ht : Try.prog.underlying t = some (.slice 3))
    (kl kc : IntKind) (L C : Int) (n : Nat) (hl : a.eval l = .int kl L) (hc : a.eval c = .int kc C) (hL : L = (n : Int)) (hC : C = (n : Int)) (hn : n ≤ 1000000)
    (hK : ∀ w', IBlk w' w.heap.size (noughts n) → Below w.heap.size w w' → w'.heap.size = w.heap.size + 1 → wpList Try.prog ops Q rest (a.put o.dst (.slice (some ⟨w.heap.size, 0, none⟩) n n)) w') :
    wpList Try.prog ops Q (o :: rest) a w := by
  obtain ⟨i0, hi, hz0, hz1, hz2⟩ := info_parts infoI
  refine wpList_plain hg fun K hK' => ?_
  subst hL
  subst hC
  have hrun := run_make (P := Try.prog) w t 3 i0 (.int .i64 0) ht hi hz0 kl kc n n (by omega) (Int.le_refl _) (by rw [hz2]; omega) (by omega)
  simp only [Int.toNat_natCast] at hrun
  unfold Oper.wp
  simp [execOp, hop, hl, hc, hrun, Result.andThen]
  refine hK' _ _ (hK _ ?_ ((Below.refl _ _).alloc (Nat.le_refl _) _) (by simp))
  have e : (madeCells (Value.int .i64 0).cells (n * i0.size)) = ((List.replicate n (0 : Int)).map (Value.int .i64)).toArray := by
    apply Array.toList_inj.1
    have := toList_madeCells_one (.int .i64 0) n
    rw [hz1, Nat.mul_one]
    simpa [Value.cells] using this
  refine ⟨_, heap_alloc_new w _, ?_⟩
  rw [e]
  simp [noughts]

/-- How many of the first b bytes leave i by M. -/
def many (M b i : Nat) : Nat := (b + M - 1 - i) / M

theorem width_bd {n : Nat} (h1 : 1 ≤ n) (h2 : n ≤ 256) : widthZ n ≤ 8 ∧ n ≤ 2 ^ widthZ n ∧ (widthZ n = 0 → n = 1) := by
  by_cases h : n = 1
  · subst h
    exact ⟨by decide, by decide, fun _ => rfl⟩
  · have e : ofZ ((n : Int) - 1) = [(n : Int) - 1] := by unfold ofZ; rw [if_neg (by omega)]
    have hr : rightB [(n : Int) - 1] = true := by simp [rightB]; omega
    have hb : bitsZ [(n : Int) - 1] = bl ((n : Int) - 1) := by
      rw [bitsZ_pos hr (by simp)]; simp
    have ew : widthZ n = Lib.bitLen (n - 1) := by
      unfold widthZ
      rw [e, hb]
      unfold bl
      rw [show ((n : Int) - 1).toNat = n - 1 by omega]
      simp
    have l1 := lt_bl (n - 1) (by omega)
    have l2 := le_bl (n - 1) (by omega) (by omega)
    rw [← ew] at l1 l2
    refine ⟨?_, by omega, fun h0 => by rw [h0] at l1; omega⟩
    by_cases h9 : widthZ n ≤ 8
    · exact h9
    · have : 2 ^ 8 ≤ 2 ^ (widthZ n - 1) := Nat.pow_le_pow_right (by omega) (by omega)
      omega

theorem pows {W : Nat} (h : W ≤ 8) : 2 ^ W = 1 ∨ 2 ^ W = 2 ∨ 2 ^ W = 4 ∨ 2 ^ W = 8 ∨ 2 ^ W = 16 ∨ 2 ^ W = 32 ∨ 2 ^ W = 64 ∨ 2 ^ W = 128 ∨ 2 ^ W = 256 := by
  have : W = 0 ∨ W = 1 ∨ W = 2 ∨ W = 3 ∨ W = 4 ∨ W = 5 ∨ W = 6 ∨ W = 7 ∨ W = 8 := by omega
  rcases this with rfl | rfl | rfl | rfl | rfl | rfl | rfl | rfl | rfl <;> simp

theorem many_step {M b i : Nat} (hM : M = 1 ∨ M = 2 ∨ M = 4 ∨ M = 8 ∨ M = 16 ∨ M = 32 ∨ M = 64 ∨ M = 128 ∨ M = 256) (hi : i < M) : many M (b + 1) i = many M b i + if b % M = i then 1 else 0 := by
  unfold many
  rcases hM with rfl | rfl | rfl | rfl | rfl | rfl | rfl | rfl | rfl <;> (split <;> omega)

theorem many_all {M i : Nat} (hM : M = 1 ∨ M = 2 ∨ M = 4 ∨ M = 8 ∨ M = 16 ∨ M = 32 ∨ M = 64 ∨ M = 128 ∨ M = 256) (hi : i < M) : many M 256 i = many M 256 0 ∧ 0 < many M 256 0 := by
  unfold many
  rcases hM with rfl | rfl | rfl | rfl | rfl | rfl | rfl | rfl | rfl <;> omega

theorem many_bd {M b i : Nat} (hb : b ≤ 256) (hM : 0 < M) : many M b i ≤ 256 := by
  unfold many
  rw [Nat.div_le_iff_le_mul_add_pred hM]
  have : 256 ≤ M * 256 := Nat.le_mul_of_pos_left _ hM
  omega

/-- What one byte leads to. -/
theorem even_step {n b : Nat} {v err : Int} {R : List Int} (h1 : 1 ≤ n) (h2 : n ≤ 256) (hb : b < 256) (h : ResSmall n [(b : Int)] v err R) :
    (b % 2 ^ widthZ n < n ∧ v = ((b % 2 ^ widthZ n : Nat) : Int) ∧ err = 0) ∨ (¬ b % 2 ^ widthZ n < n ∧ v = 0 ∧ err = 7) := by
  have hw := width_bd h1 h2
  rcases small_out h (by omega) (by omega) with ⟨w0, rfl, rfl, _⟩ | ⟨w0, h⟩
  · left
    rw [w0]
    exact ⟨by simp [Nat.mod_one]; omega, by simp [Nat.mod_one], rfl⟩
  · rw [show (widthZ n + 7) / 8 = 1 by omega] at h
    generalize widthZ n = W at *
    have ev : val 256 (([(b : Int)] : List Int).take 1).reverse % 2 ^ W = ((b % 2 ^ W : Nat) : Int) := by simp [val]
    have nothing : ∀ (r : Option Int) (S : List Int), Drawn 1 (2 ^ W) (n : Int) (([(b : Int)] : List Int).drop 1) r S → r = none := fun r S hd => by
      have := hd.unique (Drawn.over (k := 1) (M := 2 ^ W) (n := (n : Int)) (L := []) (by simp))
      exact this.1
    rcases h with ⟨hd, rfl, rfl⟩ | ⟨hd, rfl, _, _⟩
    · right
      refine ⟨?_, rfl, rfl⟩
      rcases hd.inv with ⟨h, _⟩ | ⟨_, _, h, _⟩ | ⟨_, h3, _⟩
      · exact absurd h (Nat.lt_irrefl 1)
      · cases h
      · rw [ev] at h3; omega
    · left
      rcases hd.inv with ⟨_, h, _⟩ | ⟨_, h3, h, _⟩ | ⟨_, _, h4⟩
      · cases h
      · rw [ev] at h3 h
        cases h
        exact ⟨by omega, rfl, rfl⟩
      · cases nothing _ _ h4
set_option maxRecDepth 20000 in
set_option maxHeartbeats 6400000 in
theorem walk (x0 : Int) (w : World) (h0 : (Lit.int .i64 x0).wf = true) :
    Calls Try.prog 6 #[.int .i64 x0] w fun e w' => e = .returned (.bool true) ∧ Below w.heap.size w w' := by
  have hx := int_of_wf h0
  clear h0
  by_cases c0 : x0 < 1
  · go_enter Try.func6, Try.ntmps6
    go_wp2
    go_ret
    exact ⟨rfl, Below.refl _ _⟩
  have d0 : decide (x0 < 1) = false := decide_eq_false c0
  by_cases c1 : 256 < x0
  · go_enter Try.func6, Try.ntmps6
    go_wp2
    go_ret
    exact ⟨rfl, Below.refl _ _⟩
  have d1 : decide (256 < x0) = false := decide_eq_false c1
  obtain ⟨n, rfl⟩ : ∃ n : Nat, x0 = (n : Int) := ⟨x0.toNat, by omega⟩
  have n1 : 1 ≤ n := by omega
  have n2 : n ≤ 256 := by omega
  have hw := width_bd n1 n2
  obtain ⟨M, hM⟩ : ∃ M, M = 2 ^ widthZ n := ⟨_, rfl⟩
  have hp := pows hw.1
  rw [← hM] at hw hp
  have HM : Hid (M = 2 ^ widthZ n) := hM
  have HP : Hid (M = 1 ∨ M = 2 ∨ M = 4 ∨ M = 8 ∨ M = 16 ∨ M = 32 ∨ M = 64 ∨ M = 128 ∨ M = 256) := hp
  have hnM : n ≤ M := hw.2.1
  clear hw hM hp c0 c1
  go_enter Try.func6, Try.ntmps6
  go_wp2_with (at_make; refine wpList_mkI _ rfl _ _ 29 rfl Try.underlying29 .i64 .i64 _ _ n rfl rfl rfl rfl (by omega) ?_)
  intro w1 hI1 hb1 hsz
  go_wp2
  go_loopw [4] (fun bv wr => ∃ b : Nat, b ≤ 256 ∧ bv = .int .i64 b ∧ ∃ C, IBlk wr w.heap.size C ∧ Hid (C.length = n ∧ ∀ i, i < n → C.getD i 0 = (many M b i : Int)) ∧ Below w.heap.size w wr) (fun bv _ => 256 - (intOf bv).toNat)
  case atStart =>
    refine ⟨0, by omega, rfl, _, hI1, ⟨length_noughts n, fun i hi => ?_⟩, hb1⟩
    have e : many M 0 i = 0 := by unfold many; exact Nat.div_eq_of_lt (by omega)
    rw [e]
    simp [noughts, List.getD, hi]
  case round =>
    clear hI1 hb1 hsz
    obtain ⟨b, hb, rfl, C, hC, HC, hbr⟩ := hrel
    by_cases hlt : b < 256
    · have hlti : (b : Int) < 256 := by omega
      have L1 := Byts.lit1 wr (b : Int) (by omega) 5
      have b0 := (Below.refl wr.heap.size wr).alloc (Nat.le_refl _) (.cells #[.int .u8 (b : Int)] 5)
      have hbw : IntKind.u8.wrap (b : Int) = (b : Int) := by rw [wrap8]; omega
      have hC1 := IBlk.below hC b0
      have hbr1 := hbr.alloc hbr.size (.cells #[.int .u8 (b : Int)] 5)
      have hCl := IBlk.lt hC1
      clear hC hbr b0
      go_wp2_with fail
      refine (fresh_any _ _ _ _ _ L1 (by intro e; cases e)).mono ?_
      rintro e w2 ⟨hb2, ⟨hl, rfl⟩ | ⟨hl, g, k, rfl, hT, -, hg, -⟩⟩
      · omega
      have hC2 := IBlk.below hC1 hb2
      have hbr2 := hbr1.trans (hb2.mono hbr1.size)
      have hgne : w.heap.size ≠ g := by omega
      have hgw : w.heap.size ≤ g := by omega
      clear hC1 hbr1 hb2 L1
      go_wp2_with fail
      refine (tsmall_any (n : Int) g _ _ hx.2 hT).mono ?_
      rintro e w3 ⟨v, err, R, rfl, hrs, -, hg3⟩
      have hst := even_step n1 n2 hlt hrs
      rw [← HM.out] at hst
      have hC3 := IBlk.grown hC2 hg3 hgne
      have hbr3 : Below w.heap.size w w3 := hbr2.grown hg3 hbr2.size (fun q hq => by cases hq; exact hgw)
      clear hrs hC2 hbr2 hg3 hT
      rcases hst with ⟨hx1, rfl, rfl⟩ | ⟨hx1, rfl, rfl⟩
      · obtain ⟨x, hxe⟩ : ∃ x, x = b % M := ⟨_, rfl⟩
        rw [← hxe] at hx1 ⊢
        have HX : Hid (x = b % M) := hxe
        have hc := IBlk.cell hC3 (j := x) (by have := HC.out.1; omega)
        rw [HC.out.2 x hx1] at hc
        obtain ⟨c, hce⟩ : ∃ c : Nat, c = many M b x := ⟨_, rfl⟩
        rw [← hce] at hc
        have hcb : c ≤ 256 := by rw [hce]; exact many_bd hb (by omega)
        have hf := IBlk.frozen hC3 x
        have HS : Hid (IBlk (w3.setCell ⟨w.heap.size, x, none⟩ (.int .i64 ((c : Int) + 1))) w.heap.size (C.set x ((c : Int) + 1))) := IBlk.set hC3 x _
        have HB : Hid (Below w.heap.size w (w3.setCell ⟨w.heap.size, x, none⟩ (.int .i64 ((c : Int) + 1)))) := hbr3.setCell (Nat.le_refl _) _
        have HC2 : Hid ((C.set x ((c : Int) + 1)).length = n ∧ ∀ i, i < n → (C.set x ((c : Int) + 1)).getD i 0 = (many M (b + 1) i : Int)) := by
          refine ⟨by have := HC.out.1; simpa using this, fun i hi => ?_⟩
          rw [many_step HP.out (by omega)]
          by_cases e : i = x
          · subst e
            rw [getD_set_self (by have := HC.out.1; omega), if_pos HX.out.symm, ← hce]
            omega
          · rw [getD_set_ne (by omega), HC.out.2 i hi, if_neg (by rw [← HX.out]; omega)]
            omega
        have x1 : (x : Int) < (n : Int) := by omega
        have x0' : (0 : Int) ≤ (x : Int) := by omega
        have e1 : decide ((x : Int) < 0) = false := decide_eq_false (by omega)
        have e2 : decide ((n : Int) ≤ (x : Int)) = false := decide_eq_false (by omega)
        clear hxe hce hC3 HC HX
        go_wp2
        go_roundw
        case rel => exact ⟨b + 1, by omega, by go_num, _, HS.out, HC2.out, HB.out⟩
        case measure => simp [intOf]; omega
      · have HC2 : Hid (C.length = n ∧ ∀ i, i < n → C.getD i 0 = (many M (b + 1) i : Int)) := by
          refine ⟨HC.out.1, fun i hi => ?_⟩
          rw [many_step HP.out (by omega), if_neg (by omega), HC.out.2 i hi]
          omega
        clear HC
        go_wp2
        go_roundw
        case rel => exact ⟨b + 1, by omega, by go_num, _, hC3, HC2.out, hbr3⟩
        case measure => simp [intOf]; omega
    · obtain rfl : b = 256 := by omega
      obtain ⟨t, ht⟩ : ∃ t : Nat, t = many M 256 0 := ⟨_, rfl⟩
      have HA : Hid (∀ i, i < n → C.getD i 0 = (t : Int)) := fun i hi => by
        rw [HC.out.2 i hi, ht, (many_all HP.out (by omega : i < M)).1]
      have ht0 : 0 < t := by rw [ht]; exact (many_all HP.out (by omega : 0 < M)).2
      have ht2 : t ≤ 256 := by rw [ht]; exact many_bd (by omega) (by omega)
      have hcl := HC.out.1
      have HI : Hid (∀ i, i < n → wr.cell? ⟨w.heap.size, i, none⟩ = some (.int .i64 (t : Int))) := fun i hi => by
        rw [IBlk.cell hC (by omega), HA.out i hi]
      clear HC HA ht hC hcl
      obtain ⟨wo, hwo⟩ : ∃ wo, wo = wr := ⟨_, rfl⟩
      subst hwo
      go_wp2
      go_loopw [10] (fun iv wq => ∃ i : Nat, 1 ≤ i ∧ i ≤ n ∧ iv = .int .i64 i ∧ Below wo.heap.size wo wq) (fun iv _ => n - (intOf iv).toNat)
      case atStart => exact ⟨1, by omega, by omega, rfl, Below.refl _ _⟩
      case round =>
        obtain ⟨i, hi1, hin, rfl, hbq⟩ := hrel
        have hlow : ∀ j, j < n → wr.cell? ⟨w.heap.size, j, none⟩ = some (.int .i64 (t : Int)) := fun j hj => (hbq.cell (p := ⟨w.heap.size, j, none⟩) (World.block_lt_of_cell? wo _ (HI.out j hj))).trans (HI.out j hj)
        have k0 := hlow 0 (by omega)
        have hB := hbr.trans (hbq.mono hbr.size)
        by_cases hlt : i < n
        · have k1 := hlow i hlt
          have i1 : (i : Int) < (n : Int) := by omega
          have i0 : (0 : Int) ≤ (i : Int) := by omega
          clear hlow
          go_wp2_with fail
          go_quiet (fail)
          go_wp2
          go_roundw
          case rel => exact ⟨i + 1, by omega, by omega, by go_num, ⟨hbq.os, hbq.tape, hbq.output, hbq.size, hbq.block⟩⟩
          case measure => simp [intOf]; omega
        · have e1 : decide ((i : Int) < (n : Int)) = false := decide_eq_false (by omega)
          have t1 : (0 : Int) < (t : Int) := by omega
          have n0 : (0 : Int) < (n : Int) := by omega
          clear hlow
          go_wp2
          go_ret
          exact ⟨by first | (simp; done) | (simp; omega), hB⟩

set_option maxRecDepth 100000 in
theorem lifted (os : Os) (started : os.Started) (H : Type) (enc : TypeId × Value → H) :
    ReturnsInHanded {} Try.checked os 6 .any (Rows.tapeEvenSpec.pre6 enc Try.prog Try.f6 Rows.tapeEvenRow.domain false) (Rows.tapeEvenSpec.post enc Try.prog Try.f6 false true false false) := by
  refine returnsInHanded_of_change (C := Try.checked) own started (by kernel_rfl) Try.func6
    (ChangeSpec.witness6 (enc := enc) (C := Try.checked) false ⟨#[], #[.int .i64 0], []⟩ 8 (by kernel_rfl) (by kernel_rfl) (by kernel_rfl) (by kernel_rfl)) ?_
  intro W base args ds gs before hval0 hW hcnd _
  have hval : ∀ (j : Nat) t v, Try.f6.params[j]? = some t → args[j]? = some v → Value.okWide Try.prog W .any base t v := hval0
  have hW' := hW
  obtain ⟨p, q, hA0, hV, rfl, hfz, hnd⟩ := hW
  have hA : DataW.TrodAll enc Try.prog W 0 (fun _ => true) true Try.f6.params.toList args.toList ds p := hA0
  rw [Try.params6] at hA hval
  obtain ⟨v0, vs0, d0, ds0, p0, q0, hargs, rfl, rfl, h0, r0⟩ := trodAll_cons hA
  obtain ⟨rfl, rfl, rfl⟩ := trodAll_nil r0
  obtain rfl : args = #[v0] := by cases args; simp_all
  obtain ⟨rfl, rfl⟩ := trodVars_none hV
  have k0 := h0
  have lt0 : ∀ x ∈ p0, x.block < W.heap.size := by obtain ⟨m, hm⟩ := k0; exact DataW.trod_lt m _ _ _ hm
  obtain ⟨x0, hv0, -, -, i0⟩ := open_int Try.underlying3 (hval 0 3 v0 rfl rfl) h0
  subst hv0
  clear hA0 hval0
  refine (walk x0 W i0).mono fun e W' ⟨he, bel⟩ => ?_
  subst he
  exact ⟨_, rfl, _, _, _, [], _, [], hW', trodAll_mk1 (shut_bool Try.underlying4 _), (trodAll_cons_mk (Below.trod laidOut (by kernel_rfl) (of_decide_eq_true (by kernel_rfl)) k0 bel lt0) trodAll_mk0), rfl, bel.frame _, fun h => by cases h⟩

theorem over : Rows.tapeEvenRow.holds Try.pinned (OpenSpec.ofChange Rows.tapeEvenSpec) :=
  OpenClaim.holds_of_wide 6 Try.f6 rfl rfl rfl rfl rfl rfl rfl ⟨rfl, rfl, rfl, rfl, rfl⟩ rfl rfl rfl rfl rfl (by kernel_rfl) Try.func6 (by kernel_rfl)
    (of_decide_eq_true (by kernel_rfl)) (by unfold Func.isWrapper; first | (rw [if_pos (by decide +kernel)]; kernel_rfl) | (rw [if_neg (by decide +kernel)]; exact ⟨rfl, rfl⟩))
    (fun os started H enc _ => lifted os started H enc)

theorem proved : Rows.TapeEvenSaid := over
end Go.Proofs.Ytfafbggijhghcaa.tapeEven
namespace Go.Proofs.Ytfafbggijhghcaa
theorem tapeEven_holds : Rows.TapeEvenSaid := tapeEven.proved
#print axioms tapeEven_holds
end Go.Proofs.Ytfafbggijhghcaa
