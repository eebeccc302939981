/-
  The contract of modint.restBy.
-/
import Derived.Test.YtnbdbahfekneoaaGreatEucA
import Derived.Test.YtnbdbahfekneoaaGreatModB
import Derived.Deep.RegionWith
import Derived.BigRegion
namespace Go.Proofs.YtnbdbahfekneoaaGreat
open Go.RowKit

theorem from_right {ns : List Int} (h : rightB ns = true) : fromL ns = ns ∧ fromN false ns = false := by
  have := right_from h false
  rw [Bool.false_and] at this
  exact this

theorem rightI_false {ns : List Int} (h : rightB ns = true) : rightI false ns = true := by simp [rightI, h]

/-- What the walk is told of a world that has kept what lay in W. -/
theorem bfacts {W w1 : World} (hb : Below W.heap.size W w1) : (∀ b o, b < W.heap.size → w1.cell? ⟨b, o, none⟩ = W.cell? ⟨b, o, none⟩) ∧ (∀ b o, b < W.heap.size → w1.frozen? ⟨b, o, none⟩ = W.frozen? ⟨b, o, none⟩) ∧ ∀ b, b < W.heap.size → b < w1.heap.size :=
  ⟨(bcell hb).1, (bcell hb).2, fun _ h => Nat.lt_of_lt_of_le h hb.size⟩

/-- What stands while restBy reckons. -/
structure RB (w0 : World) (g : Nat) (p : Bool) (fa : Option Addr) (fn fc : Nat) (fs : List Int) (b : Option Addr) (lb cb : Nat) (ns : List Int) (wx : World) : Prop where
  hf : Nums wx fa fn fc fs
  hn : Nums wx b lb cb ns
  hb : Below w0.heap.size w0 wx

theorem RB.below {w0 : World} {g : Nat} {p : Bool} {fa : Option Addr} {fn fc : Nat} {fs : List Int} {b : Option Addr} {lb cb : Nat} {ns : List Int} {wx w' : World} (h : RB w0 g p fa fn fc fs b lb cb ns wx) (hb : Below wx.heap.size wx w') : RB w0 g p fa fn fc fs b lb cb ns w' :=
  ⟨h.hf.below hb, h.hn.below hb, h.hb.trans (hb.mono h.hb.size)⟩
theorem RB.alloc {w0 : World} {g : Nat} {p : Bool} {fa : Option Addr} {fn fc : Nat} {fs : List Int} {b : Option Addr} {lb cb : Nat} {ns : List Int} {wx : World} (h : RB w0 g p fa fn fc fs b lb cb ns wx) (o : Obj) : RB w0 g p fa fn fc fs b lb cb ns (wx.alloc o) :=
  h.below ((Below.refl _ _).alloc (Nat.le_refl _) o)
theorem RB.drew {w0 : World} {g : Nat} {p : Bool} {fa : Option Addr} {fn fc : Nat} {fs : List Int} {b : Option Addr} {lb cb : Nat} {ns : List Int} {wx : World} (h : RB w0 g p fa fn fc fs b lb cb ns wx) : RB w0 g p fa fn fc fs b lb cb ns wx.drew :=
  h.below ⟨rfl, rfl, rfl, Nat.le_refl _, fun _ _ => rfl⟩
theorem Nums.grow {w : World} {a : Option Addr} {n c : Nat} {L : List Int} (h : Nums w a n c L) (o : Obj) : Nums (w.alloc o) a n c L := h.below ((Below.refl _ _).alloc (Nat.le_refl _) o)
theorem Nums.putN {w : World} {a : Option Addr} {n c : Nat} {zs : List Int} (h : Nums w a n c zs) {p : Addr} (hp : ∀ z, w.cell? p ≠ some (.int .u64 z)) (v : Value) : Nums (w.setCell p v) a n c zs := by
  refine ⟨h.hlen, h.hcap, h.hmax, fun h0 => ?_, h.word⟩
  obtain ⟨b, off, e, hc⟩ := h.cells h0
  refine ⟨b, off, e, fun i hi => ?_⟩
  rw [World.cell?_setCell_other]
  · exact hc i hi
  · intro e2
    have := hc i hi
    rw [← e2] at this
    exact hp _ this
theorem Nums.draw {w : World} {a : Option Addr} {n c : Nat} {L : List Int} (h : Nums w a n c L) : Nums w.drew a n c L := h.alike (fun _ => rfl)

set_option maxHeartbeats 20000000 in
theorem restBy_any (p : Bool) (fa : Option Addr) (fn fc : Nat) (fs : List Int) (b : Option Addr) (lb cb : Nat) (ns : List Int) (w : World) (h : Nums w fa fn fc fs) (h' : Nums w b lb cb ns) (hr : rightI p fs = true) (hn : rightB ns = true) (h0 : ns.length ≠ 0) :
    Calls Tryz.prog 82 #[.agg #[.bool p, .slice fa fn fc], .slice b lb cb] w fun e w' => ∃ ra rn rc rs, e = .returned (.slice ra rn rc) ∧ Nums w' ra rn rc rs ∧ rightB rs = true ∧ val 18446744073709551616 rs = iv p fs % val 18446744073709551616 ns ∧ Below w.heap.size w w' := by
  have hd' := h'.digs
  have HRB : Hid (RB w w.heap.size p fa fn fc fs b lb cb ns (w.alloc (.cells #[.bool p, .slice fa fn fc] 123))) := RB.alloc ⟨h, h', Below.refl _ _⟩ _
  have HFr : Hid (∀ wx, RB w w.heap.size p fa fn fc fs b lb cb ns wx → Calls Tryz.prog 120 #[.bool false, .slice b lb cb] wx fun e w' => ∃ ya yn yc, e = .returned (.agg #[.bool false, .slice ya yn yc]) ∧ Hid (Nums w' ya yn yc ns ∧ RB w w.heap.size p fa fn fc fs b lb cb ns w') ∧ (∀ b o, b < wx.heap.size → w'.cell? ⟨b, o, none⟩ = wx.cell? ⟨b, o, none⟩) ∧ (∀ b o, b < wx.heap.size → w'.frozen? ⟨b, o, none⟩ = wx.frozen? ⟨b, o, none⟩) ∧ (∀ b, b < wx.heap.size → b < w'.heap.size)) := by
    intro wx hbx
    refine (from_any false _ _ _ _ wx hbx.hn).mono ?_
    rintro e w' ⟨ya, yn, yc, rfl, hY, hb⟩
    rw [(from_right hn).1] at hY
    rw [(from_right hn).2]
    exact ⟨ya, yn, yc, rfl, ⟨hY, hbx.below hb⟩, bfacts hb⟩
  have HFl : Hid (∀ wx ya yn yc, Nums wx ya yn yc ns → RB w w.heap.size p fa fn fc fs b lb cb ns wx → Calls Tryz.prog 122 #[.agg #[.bool p, .slice fa fn fc], .agg #[.bool false, .slice ya yn yc]] wx fun e w' => ∃ q qa qn qc ra rn rc rs, e = .returned (.tuple #[.agg #[.bool q, .slice qa qn qc], .agg #[.bool false, .slice ra rn rc], .int .i64 0]) ∧ Hid (Nums w' ra rn rc rs ∧ (rightB rs = true ∧ val 18446744073709551616 rs = iv p fs % val 18446744073709551616 ns) ∧ Below w.heap.size w w') ∧ (∀ b o, b < wx.heap.size → w'.cell? ⟨b, o, none⟩ = wx.cell? ⟨b, o, none⟩) ∧ (∀ b o, b < wx.heap.size → w'.frozen? ⟨b, o, none⟩ = wx.frozen? ⟨b, o, none⟩) ∧ (∀ b, b < wx.heap.size → b < w'.heap.size)) := by
    intro wx ya yn yc hy hbx
    refine (ifloor_any p false _ _ _ _ _ _ _ _ wx hbx.hf hy).mono ?_
    rintro e w' ⟨q, qa, qn, qc, qs, r, ra, rn, rc, rs, err, rfl, ⟨-, hR⟩, hF, hb⟩
    obtain ⟨rfl, -, hw⟩ := floor_got hr (rightI_false hn) h0 hF
    have hr0 : r = false := by
      have := hw.2
      have h1 := Int.emod_nonneg (iv p fs) (show val 18446744073709551616 ns ≠ 0 by have := right_pos hd' hn h0; omega)
      rw [this]; simp; omega
    subst hr0
    obtain ⟨g1, g2, -⟩ := hw.got
    exact ⟨q, qa, qn, qc, ra, rn, rc, rs, rfl, ⟨hR, ⟨rightI_B g2, g1⟩, (hbx.below hb).hb⟩, bfacts hb⟩
  clear h h' hr hn h0 hd'
  go_enter Tryz.func82, Tryz.ntmps82
  go_wp2_with fail
  go_region_with (first
    | (go_at_call 120; refine (HFr.out _ ?_).mono ?_; (focus (repeat (first | exact HRB.out | refine RB.drew ?_ | refine RB.alloc ?_ _))); rintro e w3 ⟨ya, yn, yc, rfl, hY, hc3, hf3, hs3⟩; have k3 := hs3 w.heap.size (by first | omega | (simp; done) | (simp; omega)); have m30 := hc3 w.heap.size 0 (by first | omega | (simp; done) | (simp; omega)); have m31 := hc3 w.heap.size 1 (by first | omega | (simp; done) | (simp; omega)); (try have k30 := hs3 (w.heap.size + 1) (by first | omega | (simp; done) | (simp; omega))); (try have m300 := hc3 (w.heap.size + 1) 0 (by first | omega | (simp; done) | (simp; omega))); (try have f300 := hf3 (w.heap.size + 1) 0 (by first | omega | (simp; done) | (simp; omega))); (try have m301 := hc3 (w.heap.size + 1) 1 (by first | omega | (simp; done) | (simp; omega))); (try have f301 := hf3 (w.heap.size + 1) 1 (by first | omega | (simp; done) | (simp; omega))); (try have k31 := hs3 (w.heap.size + 1 + 1) (by first | omega | (simp; done) | (simp; omega))); (try have m310 := hc3 (w.heap.size + 1 + 1) 0 (by first | omega | (simp; done) | (simp; omega))); (try have f310 := hf3 (w.heap.size + 1 + 1) 0 (by first | omega | (simp; done) | (simp; omega))); (try have m311 := hc3 (w.heap.size + 1 + 1) 1 (by first | omega | (simp; done) | (simp; omega))); (try have f311 := hf3 (w.heap.size + 1 + 1) 1 (by first | omega | (simp; done) | (simp; omega))); clear hc3 hf3 hs3)
    | (go_at_call 122; refine (HFl.out _ ya yn yc ?_ ?_).mono ?_; (focus (repeat (first | exact hY.out.1 | refine Nums.draw ?_ | refine Nums.grow ?_ _))); (focus (repeat (first | exact hY.out.2 | refine RB.drew ?_ | refine RB.alloc ?_ _))); rintro e w4 ⟨q, qa, qn, qc, ra, rn, rc, rs, rfl, hR, hc4, hf4, hs4⟩; (try have k40 := hs4 (w.heap.size + 1) (by first | omega | (simp; done) | (simp; omega))); (try have m400 := hc4 (w.heap.size + 1) 0 (by first | omega | (simp; done) | (simp; omega))); (try have f400 := hf4 (w.heap.size + 1) 0 (by first | omega | (simp; done) | (simp; omega))); (try have m401 := hc4 (w.heap.size + 1) 1 (by first | omega | (simp; done) | (simp; omega))); (try have f401 := hf4 (w.heap.size + 1) 1 (by first | omega | (simp; done) | (simp; omega))); (try have k41 := hs4 (w.heap.size + 1 + 1) (by first | omega | (simp; done) | (simp; omega))); (try have m410 := hc4 (w.heap.size + 1 + 1) 0 (by first | omega | (simp; done) | (simp; omega))); (try have f410 := hf4 (w.heap.size + 1 + 1) 0 (by first | omega | (simp; done) | (simp; omega))); (try have m411 := hc4 (w.heap.size + 1 + 1) 1 (by first | omega | (simp; done) | (simp; omega))); (try have f411 := hf4 (w.heap.size + 1 + 1) 1 (by first | omega | (simp; done) | (simp; omega))); (try have k42 := hs4 (w3.heap.size) (by first | omega | (simp; done) | (simp; omega))); (try have m420 := hc4 (w3.heap.size) 0 (by first | omega | (simp; done) | (simp; omega))); (try have f420 := hf4 (w3.heap.size) 0 (by first | omega | (simp; done) | (simp; omega))); (try have m421 := hc4 (w3.heap.size) 1 (by first | omega | (simp; done) | (simp; omega))); (try have f421 := hf4 (w3.heap.size) 1 (by first | omega | (simp; done) | (simp; omega))); (try have k43 := hs4 (w3.heap.size + 1) (by first | omega | (simp; done) | (simp; omega))); (try have m430 := hc4 (w3.heap.size + 1) 0 (by first | omega | (simp; done) | (simp; omega))); (try have f430 := hf4 (w3.heap.size + 1) 0 (by first | omega | (simp; done) | (simp; omega))); (try have m431 := hc4 (w3.heap.size + 1) 1 (by first | omega | (simp; done) | (simp; omega))); (try have f431 := hf4 (w3.heap.size + 1) 1 (by first | omega | (simp; done) | (simp; omega))); clear hc4 hf4 hs4))
  all_goals
    have hz4 := hR.out.2.2.size
    have hz3 := hY.out.2.hb.size
    clear HFr HFl HRB
    go_wp2_with fail
    go_ret
    refine ⟨_, _, _, rs, rfl, ?_, hR.out.2.1.1, hR.out.2.1.2, ?_⟩
    · repeat (first | exact hR.out.1 | refine Nums.grow ?_ _ | refine Nums.putN ?_ ?_ _)
      all_goals (intro z; go_simp)
    · repeat (first | exact hR.out.2.2 | refine Below.alloc ?_ ?_ _ | refine Below.setCell ?_ ?_ _)
      all_goals (first | omega | (simp; done) | (simp; omega))
end Go.Proofs.YtnbdbahfekneoaaGreat
