/-
  The program's session: contracts of isMade, refusal, isReason, isKind, isPeer, end, State, Abort, Finish, New.
-/
import Derived.Test.YtbfjcfebbadkcaaX13A
import Derived.Test.YtbfjcfebbadkcaaRef13B
import Derived.BigQuiet
namespace Go.Proofs.Ytbfjcfebbadkcaa
open Go.RowKit

set_option maxHeartbeats 400000 in
theorem p13made (g : Nat) (n : Nat) (w : World) (h0 : 1 ≤ n) (c1 : w.cell? ⟨g, 1, none⟩ = some (.int .i64 (n : Int))) : Calls Try.prog 24 #[.pointer (some ⟨g, 0, none⟩)] w fun e w' => e = .returned (.bool true) ∧ w' = w := by
  have h0d : (0 : Int) < (n : Int) := by omega
  have h0e : decide (0 < n) = true := decide_eq_true (by omega)
  go_enter Try.func24, Try.ntmps24
  go_wp2
  go_ret
  exact ⟨rfl, rfl⟩
theorem p13made_any {w : World} {g m : Nat} {st : SS} {T : Nat → Prop} (h : PSesV w g m st T) : Calls Try.prog 24 #[.pointer (some ⟨g, 0, none⟩)] w fun e w' => e = .returned (.bool true) ∧ w' = w := p13made g st.parties w (by have := h.fine.par; omega) (h.cell 1)
def refE (ph : Nat) : Int := if ph ≠ 0 then 17 else 0
set_option maxHeartbeats 400000 in
theorem p13ref_any {w : World} {g m : Nat} {st : SS} {T : Nat → Prop} (h : PSesV w g m st T) : Calls Try.prog 26 #[.pointer (some ⟨g, 0, none⟩)] w fun e w' => e = .returned (.int .i64 (refE st.phase)) ∧ w' = w := by
  have HM := (show Hid _ from p13made_any h)
  have c5 : w.cell? ⟨g, 5, none⟩ = some (.int .i64 (st.phase : Int)) := h.cell 5
  obtain ⟨P, hP⟩ : ∃ P, P = st.phase := ⟨_, rfl⟩
  rw [← hP] at c5
  rw [← hP]
  clear h hP
  by_cases h0 : P = 0
  · have HE : Hid (refE P = 0) := by show _ = _; unfold refE; rw [if_neg (by omega)]
    subst h0
    go_enter Try.func26, Try.ntmps26
    go_wp2_with fail
    refine Calls.mono HM.out ?_
    rintro e w1 ⟨rfl, rfl⟩
    go_wp2
    go_ret
    exact ⟨by rw [HE.out]; rfl, rfl⟩
  · have HE : Hid (refE P = 17) := by show _ = _; unfold refE; rw [if_pos h0]
    obtain ⟨k1, k2⟩ := phase_off h0
    clear h0
    go_enter Try.func26, Try.ntmps26
    go_wp2_with fail
    refine Calls.mono HM.out ?_
    rintro e w1 ⟨rfl, rfl⟩
    go_wp2
    go_ret
    exact ⟨by rw [HE.out]; rfl, rfl⟩
def rsnB (y : Int) : Bool := decide (1 ≤ y ∧ y ≤ 1000)
def kndB (y : Int) : Bool := decide (1 ≤ y ∧ y ≤ 11)
set_option maxHeartbeats 400000 in
theorem p13rsn_any (y : Int) (w : World) : Calls Try.prog 27 #[.int .i64 y] w fun e w' => e = .returned (.bool (rsnB y)) ∧ w' = w := by
  by_cases h0 : 1 ≤ y
  · have h0d : decide (1 ≤ y) = true := decide_eq_true h0
    by_cases h1 : y ≤ 1000
    · have HE : Hid (true = rsnB y) := (decide_eq_true ⟨h0, h1⟩).symm
      have h1d : decide (y ≤ 1000) = true := decide_eq_true h1
      clear h0 h1
      go_enter Try.func27, Try.ntmps27
      go_wp2
      go_ret
      exact ⟨ret_bool HE.out, rfl⟩
    · have HE : Hid (false = rsnB y) := (decide_eq_false (fun e => h1 e.2)).symm
      have h1d : decide (y ≤ 1000) = false := decide_eq_false h1
      clear h0 h1
      go_enter Try.func27, Try.ntmps27
      go_wp2
      go_ret
      exact ⟨ret_bool HE.out, rfl⟩
  · have HE : Hid (false = rsnB y) := (decide_eq_false (fun e => h0 e.1)).symm
    have h0d : decide (1 ≤ y) = false := decide_eq_false h0
    clear h0
    go_enter Try.func27, Try.ntmps27
    go_wp2
    go_ret
    exact ⟨ret_bool HE.out, rfl⟩
set_option maxHeartbeats 400000 in
theorem p13knd_any (y : Int) (w : World) : Calls Try.prog 38 #[.int .i64 y] w fun e w' => e = .returned (.bool (kndB y)) ∧ w' = w := by
  by_cases h0 : 1 ≤ y
  · have h0d : decide (1 ≤ y) = true := decide_eq_true h0
    by_cases h1 : y ≤ 11
    · have HE : Hid (true = kndB y) := (decide_eq_true ⟨h0, h1⟩).symm
      have h1d : decide (y ≤ 11) = true := decide_eq_true h1
      clear h0 h1
      go_enter Try.func38, Try.ntmps38
      go_wp2
      go_ret
      exact ⟨ret_bool HE.out, rfl⟩
    · have HE : Hid (false = kndB y) := (decide_eq_false (fun e => h1 e.2)).symm
      have h1d : decide (y ≤ 11) = false := decide_eq_false h1
      clear h0 h1
      go_enter Try.func38, Try.ntmps38
      go_wp2
      go_ret
      exact ⟨ret_bool HE.out, rfl⟩
  · have HE : Hid (false = kndB y) := (decide_eq_false (fun e => h0 e.1)).symm
    have h0d : decide (1 ≤ y) = false := decide_eq_false h0
    clear h0
    go_enter Try.func38, Try.ntmps38
    go_wp2
    go_ret
    exact ⟨ret_bool HE.out, rfl⟩
set_option maxHeartbeats 1600000 in
theorem p13peer_any {w : World} {g m : Nat} {st : SS} {T : Nat → Prop} (h : PSesV w g m st T) (p : Int) : Calls Try.prog 30 #[.pointer (some ⟨g, 0, none⟩), .int .i64 p] w fun e w' => e = .returned (.bool (st.isPeer p)) ∧ w' = w := by
  have c0 : w.cell? ⟨g, 0, none⟩ = some (.int .i64 (st.self : Int)) := h.cell 0
  have c1 : w.cell? ⟨g, 1, none⟩ = some (.int .i64 (st.parties : Int)) := h.cell 1
  have hS2 := h.fine.slf
  have hI := st.isPeer_iff p
  obtain ⟨S, hS⟩ : ∃ S, S = st.self := ⟨_, rfl⟩
  obtain ⟨P, hP⟩ : ∃ P, P = st.parties := ⟨_, rfl⟩
  rw [← hS] at c0 hS2 hI
  rw [← hP] at c1 hS2 hI
  obtain ⟨Z, hZ⟩ : ∃ Z, Z = st.isPeer p := ⟨_, rfl⟩
  rw [← hZ] at hI
  rw [← hZ]
  clear h hS hP hZ
  have HT : Hid (∀ b : Bool, (b = true ↔ (0 ≤ p ∧ p < (P : Int) ∧ p ≠ (S : Int) ∧ (S = 0 ∨ p = 0))) → b = Z) := fun b hb => by
    cases b <;> cases Z <;> simp_all
  clear hI
  by_cases h0 : S = 0
  · subst h0
    by_cases h1 : 0 < p
    · have d1 : decide (0 < p) = true := decide_eq_true h1
      have HE : Hid (decide (p < (P : Int)) = Z) := HT.out _ (by simp; omega)
      clear HT h1
      go_enter Try.func30, Try.ntmps30
      go_wp2
      go_ret
      exact ⟨ret_bool HE.out, rfl⟩
    · have d1 : decide (0 < p) = false := decide_eq_false h1
      have HE : Hid (false = Z) := HT.out _ (by simp; omega)
      clear HT h1
      go_enter Try.func30, Try.ntmps30
      go_wp2
      go_ret
      exact ⟨ret_bool HE.out, rfl⟩
  · obtain ⟨k1, k2⟩ := phase_off h0
    have HE : Hid ((p == 0) = Z) := HT.out _ (by simp; omega)
    clear HT h0
    go_enter Try.func30, Try.ntmps30
    go_wp2
    go_ret
    exact ⟨ret_bool HE.out, rfl⟩
set_option maxHeartbeats 1600000 in
theorem p13end_any {w : World} {g m : Nat} {st : SS} {T : Nat → Prop} (h : PSesV w g m st T) (ph y : Nat) (hp : ph ≤ 2) (hy : y ≤ 1000) : Calls Try.prog 28 #[.pointer (some ⟨g, 0, none⟩), .int .i64 (ph : Int), .int .i64 (y : Int)] w fun e w' => e = .returned (.tuple #[]) ∧ PSesV w' g m (st.over ph y) T ∧ Only T w w' := by
  have c5 : w.cell? ⟨g, 5, none⟩ = some (.int .i64 (st.phase : Int)) := h.cell 5
  have f5 := h.frozen 5
  have k1 := heap_setCell_same w g 5 _ _ (.int .i64 (ph : Int)) h.heap
  have c6 : (w.setCell ⟨g, 5, none⟩ (.int .i64 (ph : Int))).cell? ⟨g, 6, none⟩ = some (.int .i64 (st.why : Int)) := by rw [cell_of_row _ g 6 _ _ _ k1]; rfl
  have f6 : (w.setCell ⟨g, 5, none⟩ (.int .i64 (ph : Int))).frozen? ⟨g, 6, none⟩ = false := frozen_of_row _ _ _ _ _ k1
  have k2 := heap_setCell_same _ g 6 _ _ (.int .i64 (y : Int)) k1
  have o1 : Only (fun b => b = g) w (w.setCell ⟨g, 5, none⟩ (.int .i64 (ph : Int))) := only_set (T := fun b => b = g) rfl
  have o2 : Only (fun b => b = g) w ((w.setCell ⟨g, 5, none⟩ (.int .i64 (ph : Int))).setCell ⟨g, 6, none⟩ (.int .i64 (y : Int))) := o1.trans (only_set (T := fun b => b = g) rfl) (fun _ e => .inl e)
  have c4 : ((w.setCell ⟨g, 5, none⟩ (.int .i64 (ph : Int))).setCell ⟨g, 6, none⟩ (.int .i64 (y : Int))).cell? ⟨g, 4, none⟩ = some (.map (some m)) := by rw [cell_of_row _ g 4 _ _ _ k2]; rfl
  have hw := h.waits.only o2 (fun e => h.apart e)
  obtain ⟨W2, hW2⟩ : ∃ W2, W2 = (w.setCell ⟨g, 5, none⟩ (.int .i64 (ph : Int))).setCell ⟨g, 6, none⟩ (.int .i64 (y : Int)) := ⟨_, rfl⟩
  rw [← hW2] at k2 o2 hw c4
  obtain ⟨w3, r1, r2, r3⟩ := hw.clear
  have o3 : Only (fun b => b = m) W2 w3 := Only.of_grown r2 (fun b e => by cases e; rfl)
  have HF : Hid (PSesV w3 g m (st.over ph y) T ∧ Only T w w3) := by
    refine ⟨⟨?_, h.foot, r3, h.fine.over hp hy, fun p x e => (by cases e), fun _ p => rfl⟩, (o2.wide (fun b e => (h.foot b).2 (.inl e))).trans (o3.wide (fun b e => (h.foot b).2 (.inr e))) (fun _ e => .inl e)⟩
    rw [o3.block g (Nat.lt_of_lt_of_le h.lt o2.size) (fun e => h.apart e.symm), k2]
    rfl
  have HW2 : Hid (W2 = (w.setCell ⟨g, 5, none⟩ (.int .i64 (ph : Int))).setCell ⟨g, 6, none⟩ (.int .i64 (y : Int))) := hW2
  rw [hW2] at r1 c4
  clear h k1 k2 o1 o2 hw hW2 r2 r3 o3
  go_enter Try.func28, Try.ntmps28
  go_wp2
  go_end0
  exact ⟨rfl, HF.out⟩
theorem SesT13.on {w w' : World} {g m : Nat} {st : SS} {T : Nat → Prop} (h : PSesV w' g m st T) (k : Only T w w') : SesT13 PSes w g st T w' := ⟨T, ⟨m, h⟩, k, fun _ e => .inl e⟩
set_option maxHeartbeats 800000 in
theorem p13state_any (g : Nat) (st : SS) (T : Nat → Prop) (w : World) (h : PSes w g st T) : Calls Try.prog 9 #[.pointer (some ⟨g, 0, none⟩)] w fun e w' => e = .returned (.tuple #[.int .i64 (st.phase : Int), .int .i64 (st.why : Int)]) ∧ Below w.heap.size w w' := by
  obtain ⟨m, h⟩ := h
  have HM := (show Hid _ from p13made_any h)
  have c5 : w.cell? ⟨g, 5, none⟩ = some (.int .i64 (st.phase : Int)) := h.cell 5
  have c6 : w.cell? ⟨g, 6, none⟩ = some (.int .i64 (st.why : Int)) := h.cell 6
  clear h
  go_enter Try.func9, Try.ntmps9
  go_wp2_with fail
  refine Calls.mono HM.out ?_
  rintro e w1 ⟨rfl, rfl⟩
  go_wp2_with fail
  go_quiet (fail)
  go_wp2
  go_ret2
  exact ⟨rfl, below_drewN (Below.refl _ _) _⟩
set_option maxHeartbeats 1600000 in
theorem p13abort_any (g : Nat) (st : SS) (T : Nat → Prop) (y : Int) (w : World) (h : PSes w g st T) : Calls Try.prog 14 #[.pointer (some ⟨g, 0, none⟩), .int .i64 y] w fun e w' => e = .returned (.int .i64 (st.abortE y)) ∧ SesT13 PSes w g (st.abort y) T w' := by
  obtain ⟨m, h⟩ := h
  have HR := (show Hid _ from p13ref_any h)
  have H : Hid (PSesV w g m st T) := h
  clear h
  by_cases h0 : st.phase = 0
  case neg =>
    have HE : Hid (st.abortE y = 17 ∧ st.abort y = st) := by
      have e : st.abortE y = 17 := by unfold SS.abortE; rw [if_pos h0]
      exact ⟨e, by unfold SS.abort; rw [e, if_neg (by decide)]⟩
    have HR2 : Hid (refE st.phase = 17) := by show _ = _; unfold refE; rw [if_pos h0]
    rw [HR2.out] at HR
    clear h0 HR2
    go_enter Try.func14, Try.ntmps14
    go_wp2_with fail
    refine Calls.mono HR.out ?_
    rintro e w1 ⟨rfl, rfl⟩
    go_wp2
    go_ret
    exact ⟨by rw [HE.out.1]; rfl, by rw [HE.out.2]; exact SesT13.on H.out (Only.refl _ _)⟩
  have HE : Hid (st.abortE y = (if y < 1 ∨ 1000 < y then 1 else 0)) := by show _ = _; unfold SS.abortE; rw [if_neg (by omega)]
  have HR2 : Hid (refE st.phase = 0) := by show _ = _; unfold refE; rw [if_neg (by omega)]
  rw [HR2.out] at HR
  have HY := (show Hid _ from p13rsn_any y w)
  clear h0 HR2
  by_cases hy : 1 ≤ y ∧ y ≤ 1000
  · have hyd : rsnB y = true := decide_eq_true hy
    rw [hyd] at HY
    have HE2 : Hid (st.abortE y = 0 ∧ st.abort y = st.over 2 y.toNat) := by
      have e : st.abortE y = 0 := by rw [HE.out, if_neg (by omega)]
      exact ⟨e, by unfold SS.abort; rw [e, if_pos rfl]⟩
    obtain ⟨n, rfl⟩ : ∃ n : Nat, y = (n : Int) := ⟨y.toNat, by omega⟩
    have HN := (show Hid _ from p13end_any H.out 2 n (by decide) (by omega))
    clear hy hyd HE
    go_enter Try.func14, Try.ntmps14
    go_wp2_with fail
    refine Calls.mono HR.out ?_
    rintro e w1 ⟨rfl, rfl⟩
    go_wp2_with fail
    refine Calls.mono HY.out ?_
    rintro e w1 ⟨rfl, rfl⟩
    go_wp2_with fail
    refine Calls.mono HN.out ?_
    rintro e w2 ⟨rfl, r1, r2⟩
    have HZ : Hid (PSesV w2 g m (st.over 2 n) T ∧ Only T w1 w2) := ⟨r1, r2⟩
    clear r1 r2 HN HR HY
    dsimp only
    go_wp2
    go_ret
    exact ⟨by rw [HE2.out.1]; rfl, by rw [HE2.out.2]; exact SesT13.on HZ.out.1 HZ.out.2⟩
  · have hyd : rsnB y = false := decide_eq_false hy
    rw [hyd] at HY
    have HE2 : Hid (st.abortE y = 1 ∧ st.abort y = st) := by
      have e : st.abortE y = 1 := by rw [HE.out, if_pos (by omega)]
      exact ⟨e, by unfold SS.abort; rw [e, if_neg (by decide)]⟩
    clear hy hyd HE
    go_enter Try.func14, Try.ntmps14
    go_wp2_with fail
    refine Calls.mono HR.out ?_
    rintro e w1 ⟨rfl, rfl⟩
    go_wp2_with fail
    refine Calls.mono HY.out ?_
    rintro e w1 ⟨rfl, rfl⟩
    go_wp2
    go_ret
    exact ⟨by rw [HE2.out.1]; rfl, by rw [HE2.out.2]; exact SesT13.on H.out (Only.refl _ _)⟩
theorem who_nil {st : SS} (h0 : st.phase = 0) (hF : st.Fine) : st.who = [] ↔ ∀ k, st.waits k = none := by
  unfold SS.who
  rw [if_neg (by omega), List.filter_eq_nil_iff]
  constructor
  · intro h k
    cases q : st.waits k with
    | none => rfl
    | some x => exact absurd (by rw [q]; rfl) (h k (List.mem_range.2 (hF.wai k x q).1))
  · intro h k _
    rw [h k]
    simp
set_option maxHeartbeats 1600000 in
theorem p13finish_any (g : Nat) (st : SS) (T : Nat → Prop) (w : World) (h : PSes w g st T) : Calls Try.prog 21 #[.pointer (some ⟨g, 0, none⟩)] w fun e w' => e = .returned (.int .i64 st.finishE) ∧ SesT13 PSes w g st.finish T w' := by
  obtain ⟨m, h⟩ := h
  have HR := (show Hid _ from p13ref_any h)
  have H : Hid (PSesV w g m st T) := h
  by_cases h0 : st.phase = 0
  case neg =>
    have HE : Hid (st.finishE = 17 ∧ st.finish = st) := by
      have e : st.finishE = 17 := by unfold SS.finishE; rw [if_pos h0]
      exact ⟨e, by unfold SS.finish; rw [e, if_neg (by decide)]⟩
    have HR2 : Hid (refE st.phase = 17) := by show _ = _; unfold refE; rw [if_pos h0]
    rw [HR2.out] at HR
    clear h0 HR2 h
    go_enter Try.func21, Try.ntmps21
    go_wp2_with fail
    refine Calls.mono HR.out ?_
    rintro e w1 ⟨rfl, rfl⟩
    go_wp2
    go_ret
    exact ⟨by rw [HE.out.1]; rfl, by rw [HE.out.2]; exact SesT13.on H.out (Only.refl _ _)⟩
  have HE : Hid (st.finishE = (if st.who ≠ [] then 18 else 0)) := by show _ = _; unfold SS.finishE; rw [if_neg (by omega)]
  have HR2 : Hid (refE st.phase = 0) := by show _ = _; unfold refE; rw [if_neg (by omega)]
  rw [HR2.out] at HR
  have c4 : w.cell? ⟨g, 4, none⟩ = some (.map (some m)) := h.cell 4
  obtain ⟨n, hlen, hn⟩ := h.waits.len
  have hwho := who_nil h0 h.fine
  clear h0 HR2 h
  by_cases hz : n = 0
  · have HE2 : Hid (st.finishE = 0 ∧ st.finish = st.over 1 0) := by
      have e : st.finishE = 0 := by rw [HE.out, if_neg (fun q => q (hwho.2 (hn.1 hz)))]
      exact ⟨e, by unfold SS.finish; rw [e, if_pos rfl]⟩
    have HN := (show Hid _ from p13end_any H.out 1 0 (by decide) (by decide))
    subst hz
    clear HE hn hwho
    go_enter Try.func21, Try.ntmps21
    go_wp2_with fail
    refine Calls.mono HR.out ?_
    rintro e w1 ⟨rfl, rfl⟩
    go_wp2_with fail
    refine Calls.mono HN.out ?_
    rintro e w2 ⟨rfl, r1, r2⟩
    have HZ : Hid (PSesV w2 g m (st.over 1 0) T ∧ Only T w1 w2) := ⟨r1, r2⟩
    clear r1 r2 HN HR hlen c4
    dsimp only
    go_wp2
    go_ret
    exact ⟨by rw [HE2.out.1]; rfl, by rw [HE2.out.2]; exact SesT13.on HZ.out.1 HZ.out.2⟩
  · have hzi : (0 : Int) < (n : Int) := by omega
    have hzd : decide (0 < n) = true := decide_eq_true (by omega)
    have HE2 : Hid (st.finishE = 18 ∧ st.finish = st) := by
      have e : st.finishE = 18 := by rw [HE.out, if_pos (fun q => hz (hn.2 (hwho.1 q)))]
      exact ⟨e, by unfold SS.finish; rw [e, if_neg (by decide)]⟩
    clear HE hn hwho hz
    go_enter Try.func21, Try.ntmps21
    go_wp2_with fail
    refine Calls.mono HR.out ?_
    rintro e w1 ⟨rfl, rfl⟩
    go_wp2
    go_ret
    exact ⟨by rw [HE2.out.1]; rfl, by rw [HE2.out.2]; exact SesT13.on H.out (Only.refl _ _)⟩
set_option maxHeartbeats 3200000 in
theorem p13new_any (a b c : Int) (w : World) : Calls Try.prog 6 #[.int .i64 a, .int .i64 b, .int .i64 c] w fun e w' => NewT13 PSes a b c w e w' := by
  have HI : Hid (newOk a b c = true ↔ 2 ≤ b ∧ b ≤ 16 ∧ 0 ≤ a ∧ a < b ∧ 1 ≤ c ∧ c ≤ 1073741824) := newOk_iff a b c
  go_enter Try.func6, Try.ntmps6
  by_cases h1 : b < 2
  case pos =>
    have d1 : decide (b < 2) = true := decide_eq_true h1
    have HZ : Hid (newOk a b c = false) := newOk_no (fun e => by have := HI.out.1 e; omega)
    clear HI h1
    go_wp2
    go_ret2
    exact .inl ⟨HZ.out, rfl, Below.refl _ _⟩
  have d1 : decide (b < 2) = false := decide_eq_false h1
  by_cases h2 : 16 < b
  case pos =>
    have d2 : decide (16 < b) = true := decide_eq_true h2
    have HZ : Hid (newOk a b c = false) := newOk_no (fun e => by have := HI.out.1 e; omega)
    clear HI h1 h2
    go_wp2
    go_ret2
    exact .inl ⟨HZ.out, rfl, Below.refl _ _⟩
  have d2 : decide (16 < b) = false := decide_eq_false h2
  by_cases h3 : a < 0
  case pos =>
    have d3 : decide (a < 0) = true := decide_eq_true h3
    have HZ : Hid (newOk a b c = false) := newOk_no (fun e => by have := HI.out.1 e; omega)
    clear HI h1 h2 h3
    go_wp2
    go_ret2
    exact .inl ⟨HZ.out, rfl, Below.refl _ _⟩
  have d3 : decide (a < 0) = false := decide_eq_false h3
  by_cases h4 : b ≤ a
  case pos =>
    have d4 : decide (b ≤ a) = true := decide_eq_true h4
    have HZ : Hid (newOk a b c = false) := newOk_no (fun e => by have := HI.out.1 e; omega)
    clear HI h1 h2 h3 h4
    go_wp2
    go_ret2
    exact .inl ⟨HZ.out, rfl, Below.refl _ _⟩
  have d4 : decide (b ≤ a) = false := decide_eq_false h4
  by_cases h5 : c < 1
  case pos =>
    have d5 : decide (c < 1) = true := decide_eq_true h5
    have HZ : Hid (newOk a b c = false) := newOk_no (fun e => by have := HI.out.1 e; omega)
    clear HI h1 h2 h3 h4 h5
    go_wp2
    go_ret2
    exact .inl ⟨HZ.out, rfl, Below.refl _ _⟩
  have d5 : decide (c < 1) = false := decide_eq_false h5
  by_cases h6 : 1073741824 < c
  case pos =>
    have d6 : decide (1073741824 < c) = true := decide_eq_true h6
    have HZ : Hid (newOk a b c = false) := newOk_no (fun e => by have := HI.out.1 e; omega)
    clear HI h1 h2 h3 h4 h5 h6
    go_wp2
    go_ret2
    exact .inl ⟨HZ.out, rfl, Below.refl _ _⟩
  have d6 : decide (1073741824 < c) = false := decide_eq_false h6
  have HO : Hid (newOk a b c = true ∧ a = (a.toNat : Int) ∧ b = (b.toNat : Int) ∧ c = (c.toNat : Int)) := ⟨HI.out.2 ⟨by omega, by omega, by omega, by omega, by omega, by omega⟩, by omega, by omega, by omega⟩
  clear HI h1 h2 h3 h4 h5 h6
  have hmm := @run_makeMap Try.prog
  go_wp2
  go_ret2
  obtain ⟨h1, e1, e2, e3⟩ := HO.out
  have hb1 := balloc w (.map #[] 0)
  have hb2 := bthen hb1 (balloc (w.alloc (.map #[] 0)) (.cells (scells (SS.new a.toNat b.toNat c.toNat) w.heap.size) 51))
  have hcs : #[Value.int .i64 a, .int .i64 b, .int .i64 c, .int .i64 0, .map (some w.heap.size), .int .i64 0, .int .i64 0] = scells (SS.new a.toNat b.toNat c.toNat) w.heap.size := by
    unfold scells SS.new
    dsimp only
    rw [← e1, ← e2, ← e3]
    rfl
  rw [hcs]
  refine .inr ⟨h1, w.heap.size + 1, fun b => b = w.heap.size + 1 ∨ b = w.heap.size, by simp, ⟨w.heap.size, ⟨?_, fun b => Iff.rfl, ?_, SS.Fine.new h1, fun p x e => (by cases e), fun _ p => rfl⟩⟩, hb2, fun b e => by omega⟩
  · have := heap_alloc_new (w.alloc (.map #[] 0)) (.cells (scells (SS.new a.toNat b.toNat c.toNat) w.heap.size) 51)
    simpa using this
  · exact (WaitsM.new w).block ((balloc (w.alloc (.map #[] 0)) _).block w.heap.size (by simp))
end Go.Proofs.Ytbfjcfebbadkcaa
