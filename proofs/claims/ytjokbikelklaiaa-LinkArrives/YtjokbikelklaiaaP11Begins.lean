/-
  Stage 11's laws: is what each end got the beginning of what the other one took?
-/
import Derived.Test.YtjokbikelklaiaaP11Play
namespace Go.Proofs.Ytjokbikelklaiaa
open Go.RowKit

theorem RowB.prefix {w : World} {a : Option Addr} {n c m : Nat} {Ls : List (List Int)} (h : RowB w (.slice a n c) Ls) (hm : m ≤ n) : RowB w (.slice a m c) (Ls.take m) := by
  obtain ⟨vs, h1, h2⟩ := h
  have hn : n = Ls.length := by
    obtain ⟨a', c', e⟩ := row_slice h1
    injection e
  have hl : (Ls.take m).length = m := by simp; omega
  refine ⟨vs.take m, ?_, fun i hi => ?_⟩
  · rw [hl]
    refine ⟨by have := h1.1; simp; omega, ?_⟩
    rcases h1.2 with ⟨e, hz⟩ | ⟨g, cap, cur, e, hb, hg, hnc, hcm, hsz, htk⟩
    · injection e with e1 e2 e3
      subst e1 e2 e3
      exact .inl ⟨by rw [show m = 0 by omega], by omega⟩
    · injection e with e1 e2 e3
      subst e1 e3
      refine .inr ⟨g, c, cur, rfl, hb, hg, by omega, hcm, hsz, ?_⟩
      rw [← htk, List.take_take]
      congr 1
      omega
  · rw [hl] at hi
    obtain ⟨p, q, r, e, hb⟩ := h2 i (by omega)
    refine ⟨p, q, r, by rw [List.getElem?_take, if_pos hi]; exact e, ?_⟩
    rw [show (Ls.take m).getD i [] = Ls.getD i [] by unfold List.getD; rw [List.getElem?_take, if_pos hi]]
    exact hb
/-- The first i ends have told all that they got. -/
def toldUp (s : Nat → LS) (i : Nat) : Nat → LS := fun k => if k < i then { s k with told := (s k).all.length } else s k
theorem toldUp_next (s : Nat → LS) (i : Nat) : put (toldUp s i) i { toldUp s i i with told := (toldUp s i i).all.length } = toldUp s (i + 1) := by
  have e : toldUp s i i = s i := if_neg (Nat.lt_irrefl _)
  funext k
  rw [e]
  by_cases c : k = i
  · rw [c, put_same]
    exact (if_pos (by omega)).symm
  · rw [put_other _ _ c]
    unfold toldUp
    by_cases q : k < i
    · rw [if_pos q, if_pos (by omega)]
    · rw [if_neg q, if_neg (by omega)]
theorem toldUp_same (s : Nat → LS) (i k : Nat) : (toldUp s i k).all = (s k).all ∧ (toldUp s i k).took = (s k).took ∧ (toldUp s i k).sure = (s k).sure := by
  unfold toldUp
  split <;> exact ⟨rfl, rfl, rfl⟩
theorem toldUp_both {s : Nat → LS} {ou : Nat → List Fr11} (h : BothF s ou) : ∀ i, i ≤ 2 → BothF (toldUp s i) ou
  | 0, _ => h
  | i + 1, hi => by
    rw [← toldUp_next]
    exact (toldUp_both h i (by omega)).told (by omega) _ (Nat.le_refl _)

set_option maxRecDepth 20000 in
set_option maxHeartbeats 12800000 in
theorem begins11_any {At : World → Nat → LS → (Nat → Prop) → Prop} (A : EndOk11 At) (v : Nat) (s : Nat → LS) (ou : Nat → List Fr11) (w w0 : World) (h : T11 At w v s ou (.slice none 0 0) [] w0) (hBo : BothF s ou) (hto : ∀ k, k < 2 → (s k).took.length ≤ 1000) :
    Calls Try.prog 24 #[.pointer (some ⟨v, 0, none⟩)] w0 fun e w' => e = .returned (.bool true) ∧ T11 At w v (toldUp s 2) ou (.slice none 0 0) [] w' := by
  have HT : Hid (T11 At w v s ou (.slice none 0 0) [] w0 ∧ BothF s ou ∧ ∀ k, k < 2 → (s k).took.length ≤ 1000) := ⟨h, hBo, hto⟩
  clear h hBo hto
  go_enter Try.func24, Try.ntmps24
  go_wp2
  go_loopw [3] (fun v3 wr => ∃ i : Nat, v3 = .int .i64 i ∧ i ≤ 2 ∧ Hid (T11 At w v (toldUp s i) ou (.slice none 0 0) [] wr)) (fun v3 _ => 2 - (intOf v3).toNat)
  case atStart => exact ⟨0, rfl, by omega, HT.out.1⟩
  case round =>
    obtain ⟨k, rfl, hk2, HR⟩ := hrel
    by_cases hk : k < 2
    · have hki : (k : Int) < 2 := by omega
      have hk0 : (0 : Int) ≤ (k : Int) := by omega
      obtain ⟨o, ho⟩ : ∃ o, o = 1 - k := ⟨_, rfl⟩
      have hoi : (1 : Int) - (k : Int) = (o : Int) := by omega
      have ho2 : o < 2 := by omega
      have ho2i : (o : Int) < 2 := by omega
      have ho0 : (0 : Int) ≤ (o : Int) := by omega
      have hbg := (toldUp_both HT.out.2.1 k (by omega)).begins hk
      have hto1 := HT.out.2.2 (1 - k) (by omega)
      have hal : (toldUp s k k).all.length ≤ 1000 := by
        have := hbg.1
        rw [(toldUp_same s k (1 - k)).2.1] at this
        omega
      have HC := (show Hid _ from tell11_any A v k (toldUp s k) ou (.slice none 0 0) [] w wr hk HR.out (by omega))
      rw [toldUp_next] at HC
      have HO : Hid (o = 1 - k) := ho
      clear HR hbg hto1 ho hal
      go_wp2_with fail
      refine Calls.mono HC.out ?_
      rintro e w1 ⟨rfl, h1⟩
      have HF : ∀ j, Hid (T11 At w v (toldUp s (k + 1)) ou (.slice none 0 0) [] (w1.drewN j)) := fun j => h1.grow A.toEndKept11 ⟨rfl, rfl, rfl, Nat.le_refl _, fun _ _ => rfl⟩
      obtain ⟨g, T, u, rows, hJ⟩ := h1
      obtain ⟨r1, r2, -⟩ := hJ.links k hk
      obtain ⟨t1, -, -⟩ := hJ.links o ho2
      have hsk : toldUp s (k + 1) k = { s k with told := (s k).all.length } := if_pos (by omega)
      have ex : rows (2 + k) = (s k).all := by rw [r2, hsk]; exact List.take_length
      have ey : rows o = (s o).took := by rw [t1]; exact (toldUp_same s (k + 1) o).2.1
      obtain ⟨b1, b2, b3⟩ := HT.out.2.1.begins hk
      rw [← HO.out] at b1 b2 b3
      have hRa := hJ.mem.row (2 + k) (by omega)
      have hRb := hJ.mem.row o (by omega)
      rw [ex] at hRa
      rw [ey] at hRb
      obtain ⟨aa, ca, ea, -, la1, la2⟩ := hRa.slice
      obtain ⟨ab, cb, eb, -, lb1, lb2⟩ := hRb.slice
      have hto1 := HT.out.2.2 o ho2
      obtain ⟨na, hna⟩ : ∃ na, na = (s k).all.length := ⟨_, rfl⟩
      obtain ⟨nb, hnb⟩ : ∃ nb, nb = (s o).took.length := ⟨_, rfl⟩
      rw [← hna] at ea la1 b1 b3
      rw [← hnb] at eb lb1 b1 hto1
      obtain ⟨gk, hgk⟩ : ∃ gk, gk = g k := ⟨_, rfl⟩
      obtain ⟨go, hgo⟩ : ∃ go, go = g o := ⟨_, rfl⟩
      have ck : w1.cell? ⟨v, k, none⟩ = some (.pointer (some ⟨gk, 0, none⟩)) := by rw [cell_of_row w1 v k _ _ _ hJ.mem.heap, hgk]; exact cells11_end g u hk
      have co : w1.cell? ⟨v, o, none⟩ = some (.pointer (some ⟨go, 0, none⟩)) := by rw [cell_of_row w1 v o _ _ _ hJ.mem.heap, hgo]; exact cells11_end g u ho2
      have d4 : w1.cell? ⟨v, 4 + k, none⟩ = some (.slice aa na ca) := by
        rw [cell_of_row w1 v (4 + k) _ _ _ hJ.mem.heap, ← ea, show 4 + k = 2 + (2 + k) by omega]
        exact cells11_row g u (by omega)
      have d2 : w1.cell? ⟨v, 2 + o, none⟩ = some (.slice ab nb cb) := by
        rw [cell_of_row w1 v (2 + o) _ _ _ hJ.mem.heap, ← eb]
        exact cells11_row g u (by omega)
      obtain ⟨su, hsu⟩ : ∃ su, su = (s o).sure := ⟨_, rfl⟩
      rw [← hsu] at b3
      have HGo : ∀ j, Hid (Calls Try.prog 21 #[.pointer (some ⟨gk, 0, none⟩)] (w1.drewN j) fun e w' => e = .returned (.int .i64 (na : Int)) ∧ ∃ m, w' = w1.drewN m) := fun j => by
        have := A.got (g k) _ (T k) (w1.drewN j) (A.below (hJ.mem.ends k hk) ⟨rfl, rfl, rfl, Nat.le_refl _, fun _ _ => rfl⟩)
        rw [(toldUp_same s (k + 1) k).1, ← hna, ← hgk] at this
        exact this.mono fun e w' ⟨he, m, hm⟩ => ⟨he, j + m, by rw [hm, World.drewN_drewN]⟩
      have HSu : ∀ j, Hid (Calls Try.prog 20 #[.pointer (some ⟨go, 0, none⟩)] (w1.drewN j) fun e w' => e = .returned (.int .i64 (su : Int)) ∧ ∃ m, w' = w1.drewN m) := fun j => by
        have := A.sure (g o) _ (T o) (w1.drewN j) (A.below (hJ.mem.ends o ho2) ⟨rfl, rfl, rfl, Nat.le_refl _, fun _ _ => rfl⟩)
        rw [(toldUp_same s (k + 1) o).2.2, ← hsu, ← hgo] at this
        exact this.mono fun e w' ⟨he, m, hm⟩ => ⟨he, j + m, by rw [hm, World.drewN_drewN]⟩
      have HSa : ∀ j, Hid (Calls Try.prog 15 #[.slice aa na ca, .slice ab na cb] (w1.drewN j) fun e w' => e = .returned (.bool true) ∧ ∃ m, w' = w1.drewN m) := fun j => by
        have hbj : Below w1.heap.size w1 (w1.drewN j) := ⟨rfl, rfl, rfl, Nat.le_refl _, fun _ _ => rfl⟩
        have x1 := hRa.only (Only.of_below (T := fun _ => False) hbj) (fun _ _ e => e) (fun _ e => e.elim)
        have x2 := hRb.only (Only.of_below (T := fun _ => False) hbj) (fun _ _ e => e) (fun _ e => e.elim)
        rw [ea] at x1
        rw [eb] at x2
        have x3 := RowB.prefix x2 b1
        rw [hna, ← b2] at x3
        rw [hna] at x1
        rw [hna]
        exact (same11_any _ _ _ _ x1 x3 (by omega)).mono fun e w' ⟨he, m, hm⟩ => ⟨he, j + m, by rw [hm, World.drewN_drewN]⟩
      have hnn : (nb : Int) ≤ (cb : Int) := by omega
      have hab : (na : Int) ≤ (cb : Int) := by omega
      have l1d : decide (nb < na) = false := decide_eq_false (by omega)
      have l2d : decide (na < su) = false := decide_eq_false (by omega)
      have HRb : Hid (RowB w1 (.slice ab nb cb) (s o).took) := by rw [← eb]; exact hRb
      unfold maxLen at la2 lb2
      have hcs : (ab = none ∧ nb = 0 ∧ cb = 0) ∨ ∃ gb, ab = some ⟨gb, 0, none⟩ := by
        obtain ⟨vs, q1, -⟩ := HRb.out
        rcases q1.2 with ⟨e, -⟩ | ⟨gb, cap, cur, e, -⟩
        · injection e with e1 e2 e3
          exact .inl ⟨e1, e2, e3⟩
        · injection e with e1 e2 e3
          exact .inr ⟨gb, e1⟩
      clear hJ hRa hRb r1 r2 t1 hsk ex ey b2 HC ea eb hna hnb hsu hgk hgo HRb
      rcases hcs with ⟨rfl, rfl, rfl⟩ | ⟨gb, rfl⟩
      · obtain rfl : na = 0 := by omega
        go_wp2_with fail
        refine Calls.mono (HGo 0).out ?_
        rintro e w2 ⟨rfl, m2, rfl⟩
        go_wp2_with fail
        refine Calls.mono (HSu _).out ?_
        rintro e w3 ⟨rfl, m3, rfl⟩
        go_wp2_with fail
        refine Calls.mono (HSa _).out ?_
        rintro e w4 ⟨rfl, m4, rfl⟩
        clear HGo HSu HSa
        go_wp2
        go_roundw
        case rel => exact ⟨k + 1, by go_num, by omega, HF _⟩
        case measure => simp [intOf]; omega
      · have hna0 : (0 : Int) ≤ (na : Int) := by omega
        go_wp2_with fail
        refine Calls.mono (HGo 0).out ?_
        rintro e w2 ⟨rfl, m2, rfl⟩
        go_wp2_with fail
        refine Calls.mono (HSu _).out ?_
        rintro e w3 ⟨rfl, m3, rfl⟩
        go_wp2_with fail
        refine Calls.mono (HSa _).out ?_
        rintro e w4 ⟨rfl, m4, rfl⟩
        clear HGo HSu HSa
        go_wp2
        go_roundw
        case rel => exact ⟨k + 1, by go_num, by omega, HF _⟩
        case measure => simp [intOf]; omega
    · obtain rfl : k = 2 := by omega
      go_wp2
      go_ret
      exact ⟨rfl, HR.out⟩
end Go.Proofs.Ytjokbikelklaiaa
