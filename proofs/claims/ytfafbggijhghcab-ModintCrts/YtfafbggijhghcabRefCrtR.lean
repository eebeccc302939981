/-
  The last region of the document's Crt that draws its order, by itself.
-/
import Derived.Test.YtfafbggijhghcabRestBy
import Derived.Test.YtfafbggijhghcabCrtC
import Derived.Test.YtfafbggijhghcabRefGcd
import Derived.Test.YtfafbggijhghcabModR
namespace Go.Proofs.Ytfafbggijhghcab
open Go.RowKit

/-- The region of that number in a text. -/
def regionAt (n : Nat) : Code → Option Code
  | .region k ops b => if k = n then some (.region k ops b) else none
  | .seq a b => match regionAt n a with
    | some c => some c
    | none => regionAt n b
  | .cond _ a b => match regionAt n a with
    | some c => some c
    | none => regionAt n b
  | .block _ c => regionAt n c
  | .loop c => regionAt n c
  | .scope c => regionAt n c
  | _ => none

set_option maxRecDepth 1000000 in
set_option maxHeartbeats 30000000 in
theorem crt_region (u0 u1 u2 u4 u5 u6 u7 u8 u9 u10 u11 u12 u13 u14 u15 u16 u17 u19 u20 u21 u22 u23 u24 u25 u26 u27 u28 u29 u30 u31 u32 u33 u34 u35 u36 u37 u38 u39 u40 u41 u42 u43 u44 u45 u46 u47 u48 u49 u50 u51 u52 u53 u54 u55 u56 u57 u58 u59 u60 u61 u62 u63 u64 u65 u66 u67 u68 u69 u70 u71 u72 u73 u74 u75 u76 u77 u78 u79 u80 u81 u82 u83 u84 u85 u86 u87 u88 u89 u90 u91 u92 u93 u94 u95 u96 u97 u98 u99 u100 u101 u102 u103 u104 u105 u106 u107 u108 u109 u110 u111 u112 u113 u114 u115 u116 u117 u118 u119 : Value) (K : Act → World → Prop) (P : Ending → World → Prop) (v9 : World) (g14 : Nat) (sp : Bool) (sa : Option Addr) (sn sc : Nat) (sl : List Int) (n : Option Addr) (ln cn : Nat) (ns : List Int)
    (d0 : v9.cell? ⟨g14, 0, none⟩ = some (.bool sp)) (d1 : v9.cell? ⟨g14, 1, none⟩ = some (.slice sa sn sc)) (hS : Nums v9 sa sn sc sl) (rS : rightI sp sl = true) (h3 : Nums v9 n ln cn ns) (rn : rightB ns = true) (hn2 : 2 ≤ val 18446744073709551616 ns) (hn0 : ns.length ≠ 0)
    (hK : ∀ (c99 c100 c101 c102 c98 c103 c104 c105 c20 c22 : Value) (g21 : Nat) (w' : World), Fac w' g21 (iv sp sl % val 18446744073709551616 ns) → Below v9.heap.size v9 w' → K ⟨#[u0, u1, u2, .slice n ln cn, u4, u5, u6, u7, u8, u9, u10, u11, u12, u13, u14, u15, u16, u17, .pointer (some ⟨g14, 0, none⟩), u19, c20, .pointer (some ⟨g21, 0, none⟩), c22, u23, u24, u25, u26, u27, u28, u29, u30, u31, u32, u33, u34, u35, u36, u37, u38, u39, u40, u41, u42, u43, u44, u45, u46, u47, u48, u49, u50, u51, u52, u53, u54, u55, u56, u57, u58, u59, u60, u61, u62, u63, u64, u65, u66, u67, u68, u69, u70, u71, u72, u73, u74, u75, u76, u77, u78, u79, u80, u81, u82, u83, u84, u85, u86, u87, u88, u89, u90, u91, u92, u93, u94, u95, u96, u97, c98, c99, c100, c101, c102, c103, c104, c105, u106, u107, u108, u109, u110, u111, u112, u113, u114, u115, u116, u117, u118, u119], []⟩ w') :
    Code.wp Try.prog ((Try.f9.body.bind (regionAt 16)).getD .skip) (Exit.then K (bodyPost Try.prog Try.f9 P)) ⟨#[u0, u1, u2, .slice n ln cn, u4, u5, u6, u7, u8, u9, u10, u11, u12, u13, u14, u15, u16, u17, .pointer (some ⟨g14, 0, none⟩), u19, u20, u21, u22, u23, u24, u25, u26, u27, u28, u29, u30, u31, u32, u33, u34, u35, u36, u37, u38, u39, u40, u41, u42, u43, u44, u45, u46, u47, u48, u49, u50, u51, u52, u53, u54, u55, u56, u57, u58, u59, u60, u61, u62, u63, u64, u65, u66, u67, u68, u69, u70, u71, u72, u73, u74, u75, u76, u77, u78, u79, u80, u81, u82, u83, u84, u85, u86, u87, u88, u89, u90, u91, u92, u93, u94, u95, u96, u97, u98, u99, u100, u101, u102, u103, u104, u105, u106, u107, u108, u109, u110, u111, u112, u113, u114, u115, u116, u117, u118, u119], []⟩ v9 := by
  have kg : g14 < v9.heap.size := World.block_lt_of_cell? _ _ d0
  have HN2 : Hid (2 ≤ val 18446744073709551616 ns ∧ ns.length ≠ 0) := ⟨hn2, hn0⟩
  have HRB : Hid (RB v9 g14 sp sa sn sc sl n ln cn ns v9) := ⟨hS, h3, Below.refl _ _⟩
  have HFr : Hid (∀ wx, RB v9 g14 sp sa sn sc sl n ln cn ns wx → Calls Try.prog 36 #[.bool false, .slice n ln cn] wx fun e w' => ∃ ya yn yc, e = .returned (.agg #[.bool false, .slice ya yn yc]) ∧ Hid (Nums w' ya yn yc ns ∧ RB v9 g14 sp sa sn sc sl n ln cn ns w') ∧ (∀ b o, b < wx.heap.size → w'.cell? ⟨b, o, none⟩ = wx.cell? ⟨b, o, none⟩) ∧ (∀ b o, b < wx.heap.size → w'.frozen? ⟨b, o, none⟩ = wx.frozen? ⟨b, o, none⟩) ∧ (∀ b, b < wx.heap.size → b < w'.heap.size)) := by
    intro wx hbx
    refine (refFrom_any false _ _ _ _ wx hbx.hn).mono ?_
    rintro e w' ⟨ya, yn, yc, rfl, hY, hb⟩
    rw [(from_right rn).1] at hY
    rw [(from_right rn).2]
    exact ⟨ya, yn, yc, rfl, ⟨hY, hbx.below hb⟩, bfacts hb⟩
  have HFl : Hid (∀ wx ya yn yc, Nums wx ya yn yc ns → RB v9 g14 sp sa sn sc sl n ln cn ns wx → Calls Try.prog 38 #[.agg #[.bool sp, .slice sa sn sc], .agg #[.bool false, .slice ya yn yc]] wx fun e w' => ∃ q qa qn qc ra rn rc, e = .returned (.tuple #[.agg #[.bool q, .slice qa qn qc], .agg #[.bool false, .slice ra rn rc], .int .i64 0]) ∧ Hid (∃ rs, Nums w' ra rn rc rs ∧ (rightI false rs = true ∧ iv false rs = iv sp sl % val 18446744073709551616 ns) ∧ Below v9.heap.size v9 w') ∧ (∀ b o, b < wx.heap.size → w'.cell? ⟨b, o, none⟩ = wx.cell? ⟨b, o, none⟩) ∧ (∀ b o, b < wx.heap.size → w'.frozen? ⟨b, o, none⟩ = wx.frozen? ⟨b, o, none⟩) ∧ (∀ b, b < wx.heap.size → b < w'.heap.size)) := by
    intro wx ya yn yc hy hbx
    refine (refIFloor_any sp false _ _ _ _ _ _ _ _ wx hbx.hf hy).mono ?_
    rintro e w' ⟨q, qa, qn, qc, qs, r, ra, rn', rc, rs, err, rfl, ⟨-, hR⟩, hF, hb⟩
    obtain ⟨rfl, -, hw⟩ := floor_got rS (rightI_false rn) HN2.out.2 hF
    have hr0 : r = false := by
      have := hw.2
      have h1 := Int.emod_nonneg (iv sp sl) (show val 18446744073709551616 ns ≠ 0 by have := HN2.out.1; omega)
      rw [this]; simp; omega
    subst hr0
    obtain ⟨g1, g2, -⟩ := hw.got
    exact ⟨q, qa, qn, qc, ra, rn', rc, rfl, ⟨rs, hR, ⟨g2, g1⟩, (hbx.below hb).hb⟩, bfacts hb⟩
  clear hS rS h3 hn2 hn0
  conv => arg 2; whnf
  go_region_with (first
    | (go_at_call 36; refine (HFr.out _ ?_).mono ?_; (focus (repeat (first | exact HRB.out | refine RB.drew ?_ | refine RB.alloc ?_ _))); rintro e y3 ⟨ya, yn, yc, rfl, hY, hc3, hf3, hs3⟩; have k3 := hs3 g14 (by first | omega | (simp; done) | (simp; omega)); have m30 := hc3 g14 0 (by first | omega | (simp; done) | (simp; omega)); have m31 := hc3 g14 1 (by first | omega | (simp; done) | (simp; omega)); (try have k30 := hs3 (v9.heap.size) (by first | omega | (simp; done) | (simp; omega))); (try have m300 := hc3 (v9.heap.size) 0 (by first | omega | (simp; done) | (simp; omega))); (try have f300 := hf3 (v9.heap.size) 0 (by first | omega | (simp; done) | (simp; omega))); (try have m301 := hc3 (v9.heap.size) 1 (by first | omega | (simp; done) | (simp; omega))); (try have f301 := hf3 (v9.heap.size) 1 (by first | omega | (simp; done) | (simp; omega))); (try have k31 := hs3 (v9.heap.size + 1) (by first | omega | (simp; done) | (simp; omega))); (try have m310 := hc3 (v9.heap.size + 1) 0 (by first | omega | (simp; done) | (simp; omega))); (try have f310 := hf3 (v9.heap.size + 1) 0 (by first | omega | (simp; done) | (simp; omega))); (try have m311 := hc3 (v9.heap.size + 1) 1 (by first | omega | (simp; done) | (simp; omega))); (try have f311 := hf3 (v9.heap.size + 1) 1 (by first | omega | (simp; done) | (simp; omega))); clear hc3 hf3 hs3)
    | (go_at_call 38; refine (HFl.out _ ya yn yc ?_ ?_).mono ?_; (focus (repeat (first | exact hY.out.1 | refine Nums.draw ?_ | refine Nums.grow ?_ _))); (focus (repeat (first | exact hY.out.2 | refine RB.drew ?_ | refine RB.alloc ?_ _))); rintro e y4 ⟨q, qa, qn, qc, ra, rn', rc, rfl, hR, hc4, hf4, hs4⟩; (try have k40 := hs4 (v9.heap.size) (by first | omega | (simp; done) | (simp; omega))); (try have m400 := hc4 (v9.heap.size) 0 (by first | omega | (simp; done) | (simp; omega))); (try have f400 := hf4 (v9.heap.size) 0 (by first | omega | (simp; done) | (simp; omega))); (try have m401 := hc4 (v9.heap.size) 1 (by first | omega | (simp; done) | (simp; omega))); (try have f401 := hf4 (v9.heap.size) 1 (by first | omega | (simp; done) | (simp; omega))); (try have k41 := hs4 (v9.heap.size + 1) (by first | omega | (simp; done) | (simp; omega))); (try have m410 := hc4 (v9.heap.size + 1) 0 (by first | omega | (simp; done) | (simp; omega))); (try have f410 := hf4 (v9.heap.size + 1) 0 (by first | omega | (simp; done) | (simp; omega))); (try have m411 := hc4 (v9.heap.size + 1) 1 (by first | omega | (simp; done) | (simp; omega))); (try have f411 := hf4 (v9.heap.size + 1) 1 (by first | omega | (simp; done) | (simp; omega))); (try have k42 := hs4 (y3.heap.size) (by first | omega | (simp; done) | (simp; omega))); (try have m420 := hc4 (y3.heap.size) 0 (by first | omega | (simp; done) | (simp; omega))); (try have f420 := hf4 (y3.heap.size) 0 (by first | omega | (simp; done) | (simp; omega))); (try have m421 := hc4 (y3.heap.size) 1 (by first | omega | (simp; done) | (simp; omega))); (try have f421 := hf4 (y3.heap.size) 1 (by first | omega | (simp; done) | (simp; omega))); (try have k43 := hs4 (y3.heap.size + 1) (by first | omega | (simp; done) | (simp; omega))); (try have m430 := hc4 (y3.heap.size + 1) 0 (by first | omega | (simp; done) | (simp; omega))); (try have f430 := hf4 (y3.heap.size + 1) 0 (by first | omega | (simp; done) | (simp; omega))); (try have m431 := hc4 (y3.heap.size + 1) 1 (by first | omega | (simp; done) | (simp; omega))); (try have f431 := hf4 (y3.heap.size + 1) 1 (by first | omega | (simp; done) | (simp; omega))); clear hc4 hf4 hs4))
  all_goals
    clear HFr HFl
    obtain ⟨rs, hRs, ⟨rR, vR⟩, hbR⟩ := hR.out
    have hz4 := hbR.size
    have hz3 := hY.out.2.hb.size
    refine hK _ _ _ _ _ _ _ _ _ _ _ _ ⟨false, ra, rn', rc, rs, ⟨?_, ?_⟩, ⟨?_, ?_⟩, ?_, rR, vR⟩ ?_
    · go_simp
    · go_simp
    · go_simp
    · go_simp
    · repeat (first | exact hRs | refine Nums.grow ?_ _ | refine Nums.putN ?_ ?_ _)
      all_goals (intro z; go_simp)
    · repeat (first | exact hbR | refine Below.alloc ?_ ?_ _ | refine Below.setCell ?_ ?_ _)
      all_goals (first | omega | (simp; done) | (simp; omega))
end Go.Proofs.Ytfafbggijhghcab
