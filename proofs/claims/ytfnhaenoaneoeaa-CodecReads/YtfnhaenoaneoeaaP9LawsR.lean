/-
  Stage 9's laws: the walk of CodecReads.
-/
import Derived.Test.YtfnhaenoaneoeaaP9Rd
namespace Go.Proofs.Ytfnhaenoaneoeaa
open Go.RowKit

/-- A reader of the document's that is new. -/
theorem rrd_new {w : World} {a : Option Addr} {l c : Nat} {bs : List Int} (h : Byts w a l c bs) (hn : a = none → c = 0) (hl : l ≤ 140737488355300) : RRdAt (w.alloc (.cells #[.slice a l c, .int .i64 0] 35)) w.heap.size bs :=
  ⟨a, l, c, 0, bs, Nat.zero_le _, hl, by simp, heap_alloc_new _ _, h.below ((Below.refl _ _).alloc (Nat.le_refl _) _), hn⟩

/-- The readings that are asked lie in memory. -/
def AskAt (w : World) (a : Option Addr) (i : Nat) (d m : Int) : Prop := ∃ b off, a = some ⟨b, off, none⟩ ∧ w.cell? ⟨b, off + i * 2, none⟩ = some (.int .i64 d) ∧ w.cell? ⟨b, off + i * 2 + 1, none⟩ = some (.int .i64 m)

set_option maxRecDepth 20000 in
set_option maxHeartbeats 6400000 in
theorem reads_walk {At : World → Nat → List Int → Prop} (A : RdOk9 At) (a0 a1 : Option Addr) (len0 cap0 len1 cap1 : Nat) (bs : List Int) (w : World) (H0 : Byts w a0 len0 cap0 bs) (hnil : a0 = none → cap0 = 0) (hlen : len0 ≤ 140737488355300)
    (HD : ∀ i, i < len1 → ∃ d m, AskAt w a1 i d m ∧ -9223372036854775808 ≤ m ∧ m < 9223372036854775808) :
    Calls Try.prog 6 #[.slice a0 len0 cap0, .slice a1 len1 cap1] w fun e w' => e = .returned (.bool true) ∧ Below w.heap.size w w' := by
  have HI : Hid (∀ i, i < len1 → ∃ b off d m, a1 = some ⟨b, off, none⟩ ∧ -9223372036854775808 ≤ m ∧ m < 9223372036854775808 ∧ ∀ wx : World, Below w.heap.size w wx → wx.cell? ⟨b, off + i * 2, none⟩ = some (.int .i64 d) ∧ wx.cell? ⟨b, off + i * 2 + 1, none⟩ = some (.int .i64 m)) := by
    intro i hi
    obtain ⟨d, m, ⟨b, off, e, c0, c1⟩, m1, m2⟩ := HD i hi
    exact ⟨b, off, d, m, e, m1, m2, fun wx hb => ⟨(hb.cell (p := ⟨b, off + i * 2, none⟩) (World.block_lt_of_cell? w _ c0)).trans c0, (hb.cell (p := ⟨b, off + i * 2 + 1, none⟩) (World.block_lt_of_cell? w _ c1)).trans c1⟩⟩
  clear HD
  go_enter Try.func6, Try.ntmps6
  go_wp2_with fail
  refine (A.new a0 len0 cap0 bs _ H0 hnil hlen).mono ?_
  rintro e v1 ⟨g, rfl, hg, hA0, hB1⟩
  have hR := rrd_new (H0.below hB1) hnil hlen
  have hgl := A.lt hA0
  have hA := A.below hA0 ((Below.refl v1.heap.size v1).alloc (Nat.le_refl _) (.cells #[.slice a0 len0 cap0, .int .i64 0] 35))
  have hB := hB1.alloc hB1.size (.cells #[.slice a0 len0 cap0, .int .i64 0] 35)
  obtain ⟨k, hk⟩ : ∃ k, k = v1.heap.size := ⟨_, rfl⟩
  have hne : g ≠ k := by omega
  have hkw : w.heap.size ≤ k := by have := hB1.size; omega
  rw [← hk] at hR
  clear H0 hB1
  go_wp2
  rw [← hk]
  generalize v1.alloc (.cells #[.slice a0 len0 cap0, .int .i64 0] 35) = v2 at hR hA hB ⊢
  clear hgl hk hA0
  go_loopw [7] (fun iv wr => ∃ i : Nat, i ≤ len1 ∧ i ≤ 100 ∧ iv = .int .i64 i ∧ ∃ L, At wr g L ∧ RRdAt wr k L ∧ Below w.heap.size w wr) (fun iv _ => 100 - (intOf iv).toNat)
  case atStart => exact ⟨0, Nat.zero_le _, by omega, rfl, bs, hA, hR, hB⟩
  case round =>
    clear hA hR hB v2
    obtain ⟨i, hi, hi6, rfl, L, hA, hR, hbr⟩ := hrel
    by_cases hlt : i < len1
    · have hlti : (i : Int) < (len1 : Int) := by omega
      by_cases hlt6 : i < 100
      · have hlt6i : (i : Int) < 100 := by omega
        obtain ⟨b, off, d, m, rfl, m1, m2, hcl⟩ := HI.out i hlt
        have HC : Hid (∀ wx : World, Below w.heap.size w wx → wx.cell? ⟨b, off + i * 2, none⟩ = some (.int .i64 d) ∧ wx.cell? ⟨b, off + i * 2 + 1, none⟩ = some (.int .i64 m)) := hcl
        obtain ⟨q0, q1⟩ := hcl wr hbr
        have hh := A.head hA
        clear hcl
        obtain ⟨z, hz⟩ : ∃ z, bits BinOp.and IntKind.i64 d 3 = z := ⟨_, rfl⟩
        by_cases hz0 : z = 0
        · subst hz0
          obtain ⟨M, hM, hMl⟩ : ∃ M : Nat, IntKind.u64.wrap m = (M : Int) ∧ M < 18446744073709551616 := by
            have e : IntKind.u64.wrap m = m % 18446744073709551616 := by simp [IntKind.wrap, IntKind.signed, IntKind.bits]
            exact ⟨(m % 18446744073709551616).toNat, by omega, by omega⟩
          go_wp2_with fail
          refine (A.num g L M _ hA hMl).mono ?_
          rintro e w2 ⟨x, xe, R, rfl, hxr, hA2, hg2⟩
          have hR2 := hR.apart hg2 hh (Ne.symm hne)
          have hb2 : Below w.heap.size w w2 := hbr.grown hg2 hbr.size (fun q hq => by cases hq; exact hg)
          obtain ⟨p0, p1⟩ := HC.out w2 hb2
          have HX : Hid (ResNum L M x xe R) := hxr
          clear hxr hA hR hbr hg2 hh q0 q1
          have hh2 := hR2.head
          go_wp2_with fail
          refine (r9rnum_any k L M _ hR2).mono ?_
          rintro e w3 ⟨y, ye, R', rfl, hyr, hR3, hg3⟩
          obtain ⟨rfl, rfl, rfl⟩ := HX.out.unique hyr
          have hA3 := A.apart hA2 hg3 hh2 hne
          have hb3 : Below w.heap.size w w3 := hb2.grown hg3 hb2.size (fun q hq => by cases hq; exact hkw)
          clear hyr HX hA2 hR2 hb2 hg3 hh2 p0 p1
          go_wp2_with fail
          refine (A.left g R _ hA3).mono ?_
          rintro e w4 ⟨rfl, h4⟩
          have hA4 := A.below hA3 h4
          have hR4 := hR3.below h4
          have hb4 := hb3.trans (h4.mono hb3.size)
          clear hA3 hR3 hb3 h4
          go_wp2_with fail
          refine (r9left_any k R _ hR4).mono ?_
          rintro e w5 ⟨rfl, h5⟩
          have hA5 := A.below hA4 h5
          have hR5 := hR4.below h5
          have hb5 := hb4.trans (h5.mono hb4.size)
          clear hA4 hR4 hb4 h5
          go_wp2
          go_roundw
          case rel => exact ⟨i + 1, by omega, by omega, by go_num, R, hA5, hR5, hb5⟩
          case measure => simp [intOf]; omega
        have z0 : (z == 0) = false := by simpa using hz0
        by_cases hz1 : z = 1
        · subst hz1
          go_wp2_with fail
          refine (A.int g L m _ hA ⟨m1, m2⟩).mono ?_
          rintro e w2 ⟨x, xe, R, rfl, hxr, hA2, hg2⟩
          have hR2 := hR.apart hg2 hh (Ne.symm hne)
          have hb2 : Below w.heap.size w w2 := hbr.grown hg2 hbr.size (fun q hq => by cases hq; exact hg)
          obtain ⟨p0, p1⟩ := HC.out w2 hb2
          have HX : Hid (ResIntR L m x xe R) := hxr
          clear hxr hA hR hbr hg2 hh q0 q1
          have hh2 := hR2.head
          go_wp2_with fail
          refine (r9rint_any k L m _ hR2 ⟨m1, m2⟩).mono ?_
          rintro e w3 ⟨y, ye, R', rfl, hyr, hR3, hg3⟩
          obtain ⟨rfl, rfl, rfl⟩ := HX.out.unique hyr
          have hA3 := A.apart hA2 hg3 hh2 hne
          have hb3 : Below w.heap.size w w3 := hb2.grown hg3 hb2.size (fun q hq => by cases hq; exact hkw)
          clear hyr HX hA2 hR2 hb2 hg3 hh2 p0 p1
          go_wp2_with fail
          refine (A.left g R _ hA3).mono ?_
          rintro e w4 ⟨rfl, h4⟩
          have hA4 := A.below hA3 h4
          have hR4 := hR3.below h4
          have hb4 := hb3.trans (h4.mono hb3.size)
          clear hA3 hR3 hb3 h4
          go_wp2_with fail
          refine (r9left_any k R _ hR4).mono ?_
          rintro e w5 ⟨rfl, h5⟩
          have hA5 := A.below hA4 h5
          have hR5 := hR4.below h5
          have hb5 := hb4.trans (h5.mono hb4.size)
          clear hA4 hR4 hb4 h5
          go_wp2
          go_roundw
          case rel => exact ⟨i + 1, by omega, by omega, by go_num, R, hA5, hR5, hb5⟩
          case measure => simp [intOf]; omega
        have z1 : (z == 1) = false := by simpa using hz1
        go_wp2_with fail
        refine (A.byt g L m _ hA ⟨m1, m2⟩).mono ?_
        rintro e w2 ⟨xa, xl, xc, xs, xe, R, rfl, ⟨hx, -⟩, hxr, hA2, hg2⟩
        have hR2 := hR.apart hg2 hh (Ne.symm hne)
        have hb2 : Below w.heap.size w w2 := hbr.grown hg2 hbr.size (fun q hq => by cases hq; exact hg)
        obtain ⟨p0, p1⟩ := HC.out w2 hb2
        have HX : Hid (ResBytR L m xs xe R) := hxr
        clear hxr hA hR hbr hg2 hh q0 q1
        have hh2 := hR2.head
        go_wp2_with fail
        refine (r9rbyt_any k L m _ hR2 ⟨m1, m2⟩).mono ?_
        rintro e w3 ⟨ya, yl, yc, ys, ye, R', rfl, ⟨hy, -⟩, hyr, hR3, hg3⟩
        obtain ⟨rfl, rfl, rfl⟩ := HX.out.unique hyr
        have hA3 := A.apart hA2 hg3 hh2 hne
        have hb3 : Below w.heap.size w w3 := hb2.grown hg3 hb2.size (fun q hq => by cases hq; exact hkw)
        have c1 := conv_any (hx.head hg3 hh2)
        have c2 := conv_any hy
        clear hyr HX hA2 hR2 hb2 hg3 hh2 p0 p1 hx hy
        go_wp2_with fail
        refine (A.left g R _ hA3).mono ?_
        rintro e w4 ⟨rfl, h4⟩
        have hA4 := A.below hA3 h4
        have hR4 := hR3.below h4
        have hb4 := hb3.trans (h4.mono hb3.size)
        clear hA3 hR3 hb3 h4 c1 c2
        go_wp2_with fail
        refine (r9left_any k R _ hR4).mono ?_
        rintro e w5 ⟨rfl, h5⟩
        have hA5 := A.below hA4 h5
        have hR5 := hR4.below h5
        have hb5 := hb4.trans (h5.mono hb4.size)
        clear hA4 hR4 hb4 h5
        go_wp2
        go_roundw
        case rel => exact ⟨i + 1, by omega, by omega, by go_num, R, hA5, hR5, hb5⟩
        case measure => simp [intOf]; omega
      · have hd : decide ((i : Int) < 100) = false := by simp; omega
        go_wp2_with fail
        refine (A.left g L _ hA).mono ?_
        rintro e w4 ⟨rfl, h4⟩
        have hR4 := hR.below h4
        have hb4 := hbr.trans (h4.mono hbr.size)
        clear hA hR hbr h4
        go_wp2_with fail
        refine (r9left_any k L _ hR4).mono ?_
        rintro e w5 ⟨rfl, h5⟩
        have hb5 := hb4.trans (h5.mono hb4.size)
        clear hR4 hb4 h5
        go_wp2
        go_ret
        exact ⟨by simp, hb5⟩
    · have hd : decide ((i : Int) < (len1 : Int)) = false := by simp; omega
      go_wp2_with fail
      refine (A.left g L _ hA).mono ?_
      rintro e w4 ⟨rfl, h4⟩
      have hR4 := hR.below h4
      have hb4 := hbr.trans (h4.mono hbr.size)
      clear hA hR hbr h4
      go_wp2_with fail
      refine (r9left_any k L _ hR4).mono ?_
      rintro e w5 ⟨rfl, h5⟩
      have hb5 := hb4.trans (h5.mono hb4.size)
      clear hR4 hb4 h5
      go_wp2
      go_ret
      exact ⟨by simp, hb5⟩
end Go.Proofs.Ytfnhaenoaneoeaa
