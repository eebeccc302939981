/-
  Contracts of package paillier's plain, hider, cipher and faultOf.
-/
import Derived.Test.YtambpcgdaogojabGreatQLook
import Derived.Laws.EntriesVeiled
import Derived.Laws.NewBlocks
namespace Go.Proofs.YtambpcgdaogojabGreat
open Go.RowKit

set_option maxRecDepth 20000 in
set_option maxHeartbeats 400000 in
theorem mkcipher_any (a : Option Addr) (la ca : Nat) (w : World) :
    Calls Tryz.prog 25 #[.slice a la ca] w fun e w' => e = .returned (.agg #[.slice a la ca, .func (.func 56) #[] #[], .int .i64 11]) ∧ Below w.heap.size w w' := by
  go_enter Tryz.func25, Tryz.ntmps25
  go_wp2
  refine bodyPost_ret (v := .agg #[.slice a la ca, .func (.func 56) #[] #[], .int .i64 11]) (by simp [results, Tryz.results25, go_sem]) rfl ⟨rfl, ?_⟩
  exact (Below.refl w.heap.size w).alloc (Nat.le_refl _) _

set_option maxRecDepth 20000 in
set_option maxHeartbeats 400000 in
theorem mkplain_any (a : Option Addr) (la ca : Nat) (w : World) :
    Calls Tryz.prog 22 #[.slice a la ca] w fun e w' => e = .returned (.agg #[.slice a la ca, .func (.func 50) #[] #[], .int .i64 10]) ∧ Below w.heap.size w w' := by
  go_enter Tryz.func22, Tryz.ntmps22
  go_wp2
  refine bodyPost_ret (v := .agg #[.slice a la ca, .func (.func 50) #[] #[], .int .i64 10]) (by simp [results, Tryz.results22, go_sem]) rfl ⟨rfl, ?_⟩
  exact (Below.refl w.heap.size w).alloc (Nat.le_refl _) _

set_option maxRecDepth 20000 in
set_option maxHeartbeats 400000 in
theorem mkhider_any (a : Option Addr) (la ca : Nat) (w : World) :
    Calls Tryz.prog 53 #[.slice a la ca] w fun e w' => e = .returned (.agg #[.slice a la ca, .func (.func 52) #[] #[], .int .i64 1]) ∧ Below w.heap.size w w' := by
  go_enter Tryz.func53, Tryz.ntmps53
  go_wp2
  refine bodyPost_ret (v := .agg #[.slice a la ca, .func (.func 52) #[] #[], .int .i64 1]) (by simp [results, Tryz.results53, go_sem]) rfl ⟨rfl, ?_⟩
  exact (Below.refl w.heap.size w).alloc (Nat.le_refl _) _

/-- The first fault from the k-th argument on, m arguments left. -/
def firstF (B : Nat → Bool) (X : Nat → Int) : Nat → Nat → Int
  | _, 0 => 0
  | k, m + 1 => if B k then firstF B X (k + 1) m else X k

theorem firstF_on {B : Nat → Bool} {X : Nat → Int} {k m : Nat} (h : B k = true) (hm : k < m) : firstF B X k (m - k) = firstF B X (k + 1) (m - (k + 1)) := by
  have e : m - k = (m - (k + 1)) + 1 := by omega
  rw [e, firstF, h, if_pos rfl]
theorem firstF_off {B : Nat → Bool} {X : Nat → Int} {k m : Nat} (h : B k = false) (hm : k < m) : firstF B X k (m - k) = X k := by
  have e : m - k = (m - (k + 1)) + 1 := by omega
  rw [e, firstF, h]
  rfl

set_option maxRecDepth 20000 in
set_option maxHeartbeats 1600000 in
theorem faultOf_any (na : Option Addr) (nl nc : Nat) (b n : Nat) (A : Nat → Option Addr) (Ln Cn F : Nat → Nat) (X : Nat → Int) (B : Nat → Bool) (w : World) (hn : n ≤ 1000)
    (hm : Calls Tryz.prog 49 #[.slice na nl nc] w fun e w' => e = .returned (.bool true) ∧ Below w.heap.size w w')
    (hc : ∀ k, k < n → w.cell? ⟨b, k * 3, none⟩ = some (.slice (A k) (Ln k) (Cn k)) ∧ w.cell? ⟨b, k * 3 + 1, none⟩ = some (.func (.func (F k)) #[] #[]) ∧ w.cell? ⟨b, k * 3 + 2, none⟩ = some (.int .i64 (X k)))
    (hE : ∀ k, k < n → ∀ (args : Array Value) (w : World), (callFunc (F k) args).run Tryz.prog w = .ok (.enter (F k) args) w)
    (hf : ∀ k, k < n → ∀ wx, Below w.heap.size w wx → Calls Tryz.prog (F k) #[.slice na nl nc, .slice (A k) (Ln k) (Cn k)] wx fun e w' => e = .returned (.bool (B k)) ∧ Below wx.heap.size wx w') :
    Calls Tryz.prog 21 #[.slice na nl nc, .slice (some ⟨b, 0, none⟩) n n] w fun e w' => e = .returned (.int .i64 (firstF B X 0 n)) ∧ Below w.heap.size w w' := by
  have HC : Hid (∀ k, k < n → w.cell? ⟨b, k * 3, none⟩ = some (.slice (A k) (Ln k) (Cn k)) ∧ w.cell? ⟨b, k * 3 + 1, none⟩ = some (.func (.func (F k)) #[] #[]) ∧ w.cell? ⟨b, k * 3 + 2, none⟩ = some (.int .i64 (X k))) := hc
  have HF : Hid (∀ k, k < n → ∀ wx, Below w.heap.size w wx → Calls Tryz.prog (F k) #[.slice na nl nc, .slice (A k) (Ln k) (Cn k)] wx fun e w' => e = .returned (.bool (B k)) ∧ Below wx.heap.size wx w') := hf
  have HM := (show Hid _ from hm)
  have HEn : Hid (∀ k, k < n → ∀ (args : Array Value) (w : World), (callFunc (F k) args).run Tryz.prog w = .ok (.enter (F k) args) w) := hE
  clear hc hf hm hE
  go_enter Tryz.func21, Tryz.ntmps21
  go_wp2_with fail
  refine Calls.mono HM.out ?_
  rintro e w1 ⟨rfl, hb1⟩
  clear HM
  go_wp2
  go_loopw [12] (fun iv wr => ∃ k : Nat, k ≤ n ∧ iv = .int .i64 k ∧ Hid (firstF B X 0 n = firstF B X k (n - k)) ∧ Below w.heap.size w wr) (fun iv _ => n - (intOf iv).toNat)
  case atStart => exact ⟨0, Nat.zero_le _, rfl, (rfl : firstF B X 0 n = firstF B X 0 (n - 0)), hb1⟩
  case round =>
    clear hb1
    obtain ⟨k, hk, rfl, HE, hbr⟩ := hrel
    by_cases hlt : k < n
    · have hlti : (k : Int) < (n : Int) := by omega
      obtain ⟨e0, e1, e2⟩ := HC.out k hlt
      have c0 := (hbr.cell (World.block_lt_of_cell? _ _ e0)).trans e0
      have c1 := (hbr.cell (World.block_lt_of_cell? _ _ e1)).trans e1
      have c2 := (hbr.cell (World.block_lt_of_cell? _ _ e2)).trans e2
      have hEk := HEn.out k hlt
      have hbn := hbr.alloc hbr.size (.cells #[.slice (A k) (Ln k) (Cn k), .func (.func (F k)) #[] #[], .int .i64 (X k)] 71)
      have HFk := (show Hid _ from HF.out k hlt _ hbn)
      have d2 : (wr.alloc (.cells #[.slice (A k) (Ln k) (Cn k), .func (.func (F k)) #[] #[], .int .i64 (X k)] 71)).cell? ⟨wr.heap.size, 2, none⟩ = some (.int .i64 (X k)) := by simp
      clear e0 e1 e2
      cases hB : B k with
      | true =>
        rw [hB] at HFk
        have HE2 : Hid (firstF B X 0 n = firstF B X (k + 1) (n - (k + 1))) := HE.out.trans (firstF_on hB hlt)
        clear d2 HE hB
        go_wp2_with fail
        refine Calls.mono HFk.out ?_
        rintro e w3 ⟨rfl, hb3⟩
        have hB3 := hbn.trans (hb3.mono hbn.size)
        clear HFk hbn hb3 c0 c1 c2 hEk hbr
        go_wp2
        go_roundw
        case rel => exact ⟨k + 1, by omega, by go_num, HE2, hB3⟩
        case measure => simp [intOf]; omega
      | false =>
        rw [hB] at HFk
        have HE2 : Hid (firstF B X 0 n = X k) := HE.out.trans (firstF_off hB hlt)
        clear HE hB
        go_wp2_with fail
        refine Calls.mono HFk.out ?_
        rintro e w3 ⟨rfl, hb3⟩
        have hB3 := hbn.trans (hb3.mono hbn.size)
        have d3 := (hb3.cell (World.block_lt_of_cell? _ _ d2)).trans d2
        clear HFk hbn hb3 c0 c1 c2 hEk hbr d2
        go_wp2
        go_ret
        exact ⟨by rw [HE2.out]; rfl, hB3⟩
    · have hge : ¬ (k : Int) < (n : Int) := by omega
      obtain rfl : k = n := by omega
      go_wp2
      go_ret
      refine ⟨?_, hbr⟩
      rw [HE.out, Nat.sub_self]; rfl

/-- What a test of an argument tells. -/
def KindT (na : Option Addr) (nl nc : Nat) (ns : List Int) (F : Nat) (T : List Int → Bool) : Prop :=
  (∀ (args : Array Value) (w : World), (callFunc F args).run Tryz.prog w = .ok (.enter F args) w) ∧ ∀ (a : Option Addr) (l c : Nat) (cs : List Int) (wx : World), Nums wx na nl nc ns → Nums wx a l c cs → Calls Tryz.prog F #[.slice na nl nc, .slice a l c] wx fun e w' => e = .returned (.bool (T cs)) ∧ Below wx.heap.size wx w'

set_option maxRecDepth 20000 in
set_option maxHeartbeats 400000 in
theorem faultOf_bad (na : Option Addr) (nl nc : Nat) (g : Option Addr) (n c : Nat) (w : World)
    (hm : Calls Tryz.prog 49 #[.slice na nl nc] w fun e w' => e = .returned (.bool false) ∧ Below w.heap.size w w') :
    Calls Tryz.prog 21 #[.slice na nl nc, .slice g n c] w fun e w' => e = .returned (.int .i64 1) ∧ Below w.heap.size w w' := by
  have HM := (show Hid _ from hm)
  clear hm
  go_enter Tryz.func21, Tryz.ntmps21
  go_wp2_with fail
  refine Calls.mono HM.out ?_
  rintro e w1 ⟨rfl, hb1⟩
  clear HM
  go_wp2
  go_ret
  exact ⟨rfl, hb1⟩

theorem fault1_any (na : Option Addr) (nl nc : Nat) (ns : List Int) (F0 : Nat) (X0 : Int) (T0 : List Int → Bool) (a0 : Option Addr) (l0 c0 : Nat) (z0 : List Int) (w : World)
    (h : Nums w na nl nc ns) (h0 : Nums w a0 l0 c0 z0) (k0 : pubB ns = true → KindT na nl nc ns F0 T0) :
    Calls Tryz.prog 21 #[.slice na nl nc, .slice (some ⟨w.heap.size, 0, none⟩) 1 1] (w.alloc (.cells #[.slice a0 l0 c0, .func (.func F0) #[] #[], .int .i64 X0] 71))
      fun e w' => e = .returned (.int .i64 (if pubB ns then (if T0 z0 then 0 else X0) else 1)) ∧ Below w.heap.size w w' := by
  have hb := (Below.refl w.heap.size w).alloc (Nat.le_refl _) (.cells #[.slice a0 l0 c0, .func (.func F0) #[] #[], .int .i64 X0] 71)
  have hM := may_ok6 _ _ _ _ _ (h.below hb)
  cases hp : pubB ns with
  | false =>
    rw [hp] at hM
    refine (faultOf_bad _ _ _ _ _ _ _ hM).mono ?_
    rintro e w' ⟨rfl, hb'⟩
    exact ⟨rfl, hb.trans (hb'.mono hb.size)⟩
  | true =>
    rw [hp] at hM
    obtain ⟨e0, t0⟩ := k0 hp
    refine (faultOf_any na nl nc w.heap.size 1 (fun _ => a0) (fun _ => l0) (fun _ => c0) (fun _ => F0) (fun _ => X0) (fun _ => T0 z0) _ (by decide) hM ?_ (fun k _ => e0) ?_).mono ?_
    · intro k hk
      obtain rfl : k = 0 := by omega
      exact ⟨by simp, by simp, by simp⟩
    · intro k hk wx hbx
      have hbb := hb.trans (hbx.mono hb.size)
      exact t0 _ _ _ _ _ (h.below hbb) (h0.below hbb)
    · rintro e w' ⟨rfl, hb'⟩
      refine ⟨?_, hb.trans (hb'.mono hb.size)⟩
      simp only [firstF]
      rfl

theorem fault2_any (na : Option Addr) (nl nc : Nat) (ns : List Int) (F0 : Nat) (X0 : Int) (T0 : List Int → Bool) (F1 : Nat) (X1 : Int) (T1 : List Int → Bool) (a0 : Option Addr) (l0 c0 : Nat) (z0 : List Int) (a1 : Option Addr) (l1 c1 : Nat) (z1 : List Int) (w : World)
    (h : Nums w na nl nc ns) (h0 : Nums w a0 l0 c0 z0) (h1 : Nums w a1 l1 c1 z1) (k0 : pubB ns = true → KindT na nl nc ns F0 T0) (k1 : pubB ns = true → KindT na nl nc ns F1 T1) :
    Calls Tryz.prog 21 #[.slice na nl nc, .slice (some ⟨w.heap.size, 0, none⟩) 2 2] (w.alloc (.cells #[.slice a0 l0 c0, .func (.func F0) #[] #[], .int .i64 X0, .slice a1 l1 c1, .func (.func F1) #[] #[], .int .i64 X1] 71))
      fun e w' => e = .returned (.int .i64 (if pubB ns then (if T0 z0 then (if T1 z1 then 0 else X1) else X0) else 1)) ∧ Below w.heap.size w w' := by
  have hb := (Below.refl w.heap.size w).alloc (Nat.le_refl _) (.cells #[.slice a0 l0 c0, .func (.func F0) #[] #[], .int .i64 X0, .slice a1 l1 c1, .func (.func F1) #[] #[], .int .i64 X1] 71)
  have hM := may_ok6 _ _ _ _ _ (h.below hb)
  cases hp : pubB ns with
  | false =>
    rw [hp] at hM
    refine (faultOf_bad _ _ _ _ _ _ _ hM).mono ?_
    rintro e w' ⟨rfl, hb'⟩
    exact ⟨rfl, hb.trans (hb'.mono hb.size)⟩
  | true =>
    rw [hp] at hM
    obtain ⟨e0, t0⟩ := k0 hp
    obtain ⟨e1, t1⟩ := k1 hp
    refine (faultOf_any na nl nc w.heap.size 2 (fun k => if k = 0 then a0 else a1) (fun k => if k = 0 then l0 else l1) (fun k => if k = 0 then c0 else c1) (fun k => if k = 0 then F0 else F1) (fun k => if k = 0 then X0 else X1) (fun k => if k = 0 then T0 z0 else T1 z1) _ (by decide) hM ?_ ?_ ?_).mono ?_
    · intro k hk
      have : k = 0 ∨ k = 1 := by omega
      rcases this with rfl | rfl
      · exact ⟨by simp, by simp, by simp⟩
      · exact ⟨by simp, by simp, by simp⟩
    · intro k hk
      have : k = 0 ∨ k = 1 := by omega
      rcases this with rfl | rfl
      · exact e0
      · exact e1
    · intro k hk wx hbx
      have hbb := hb.trans (hbx.mono hb.size)
      have : k = 0 ∨ k = 1 := by omega
      rcases this with rfl | rfl
      · exact t0 _ _ _ _ _ (h.below hbb) (h0.below hbb)
      · exact t1 _ _ _ _ _ (h.below hbb) (h1.below hbb)
    · rintro e w' ⟨rfl, hb'⟩
      refine ⟨?_, hb.trans (hb'.mono hb.size)⟩
      simp only [firstF]
      rfl
end Go.Proofs.YtambpcgdaogojabGreat
