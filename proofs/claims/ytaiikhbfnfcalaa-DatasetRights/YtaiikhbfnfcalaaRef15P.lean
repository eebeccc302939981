/-
  The document's Take: a bin more. Written by mk/r15take.py.
-/
import Derived.Test.YtaiikhbfnfcalaaR15K
import Derived.Test.YtaiikhbfnfcalaaR15G
namespace Go.Proofs.Ytaiikhbfnfcalaa
open Go.RowKit

set_option maxRecDepth 100000 in
set_option maxHeartbeats 12800000 in
theorem tk_p18 {x0 x3 x4 x5 x6 x7 x8 x9 x13 x14 x15 x16 x17 x18 x19 x20 x21 x22 x23 x24 x25 x26 x27 x28 x29 x30 x31 x32 x33 x34 x35 x36 x37 x38 x39 x40 x41 x42 x43 x44 x45 x46 x47 x48 x49 x50 x51 x52 x53 x54 x55 x56 x57 x58 x59 x60 x61 x62 x63 x64 x65 x66 x67 x68 x69 x70 x71 x72 x73 x74 x75 x76 x77 x78 x79 x80 x81 x82 x83 : Value} {Q : Exit → Act → World → Prop} {W : World} {g b off l c i k bq oq n m bc oc nc kc base pos : Nat} {v : TV} {x y : Int} {is cs : List Int} {sv : Value} (c0 : W.cell? ⟨g, 0, none⟩ = some (.slice v.p0 v.l0 v.c0)) (c2 : W.cell? ⟨g, 2, none⟩ = some (.slice (some ⟨bq, oq, none⟩) n m)) (mk : W.cell? ⟨bq, oq + k, none⟩ = some (.slice (some ⟨bc, oc, none⟩) nc kc)) (mi : W.cell? ⟨b, off + i, none⟩ = some (.int .i64 x)) (my : W.cell? ⟨bc, oc + pos, none⟩ = some (.int .i64 y)) (hi : i < l) (hk : k < n) (hpos : placeI is x = (pos : Int)) (hpn : pos < nc) (hLi : Lsts W v.p0 v.l0 v.c0 is) (hO : IOwn W base sv cs) (hcs : cs.length < 999999) (hbase : base ≤ W.heap.size) (hy : -9223372036854775808 ≤ y ∧ y < 9223372036854775808)
    (hN : ∀ (v5 : Value) (w5 : World) (y60 y61 y62 y63 y64 y65 y66 y67 y68 y69 y70 y71 y72 y73 y74 y75 y76 : Value), IOwn w5 base v5 (cs ++ [y]) → Below base W w5 → Q .normal ⟨#[x0, .slice (some ⟨b, off, none⟩) l c, .pointer (some ⟨g, 0, none⟩), x3, x4, x5, x6, x7, x8, x9, .int .i64 (k : Int), v5, .int .i64 (i : Int), x13, x14, x15, x16, x17, x18, x19, x20, x21, x22, x23, x24, x25, x26, x27, x28, x29, x30, x31, x32, x33, x34, x35, x36, x37, x38, x39, x40, x41, x42, x43, x44, x45, x46, x47, x48, x49, x50, x51, x52, x53, x54, x55, x56, x57, x58, x59, y60, y61, y62, y63, y64, y65, y66, y67, y68, y69, y70, y71, y72, y73, y74, y75, y76, x77, x78, x79, x80, x81, x82, x83], []⟩ w5) :
    Code.wp Try.prog (((Try.f16.body.bind (pcBlk 5)).bind (pcFrom 18)).getD .skip) Q ⟨#[x0, .slice (some ⟨b, off, none⟩) l c, .pointer (some ⟨g, 0, none⟩), x3, x4, x5, x6, x7, x8, x9, .int .i64 (k : Int), sv, .int .i64 (i : Int), x13, x14, x15, x16, x17, x18, x19, x20, x21, x22, x23, x24, x25, x26, x27, x28, x29, x30, x31, x32, x33, x34, x35, x36, x37, x38, x39, x40, x41, x42, x43, x44, x45, x46, x47, x48, x49, x50, x51, x52, x53, x54, x55, x56, x57, x58, x59, x60, x61, x62, x63, x64, x65, x66, x67, x68, x69, x70, x71, x72, x73, x74, x75, x76, x77, x78, x79, x80, x81, x82, x83], []⟩ W := by
  conv => arg 2; whnf
  have HN : Hid (∀ (v5 : Value) (w5 : World) (y60 y61 y62 y63 y64 y65 y66 y67 y68 y69 y70 y71 y72 y73 y74 y75 y76 : Value), IOwn w5 base v5 (cs ++ [y]) → Below base W w5 → Q .normal ⟨#[x0, .slice (some ⟨b, off, none⟩) l c, .pointer (some ⟨g, 0, none⟩), x3, x4, x5, x6, x7, x8, x9, .int .i64 (k : Int), v5, .int .i64 (i : Int), x13, x14, x15, x16, x17, x18, x19, x20, x21, x22, x23, x24, x25, x26, x27, x28, x29, x30, x31, x32, x33, x34, x35, x36, x37, x38, x39, x40, x41, x42, x43, x44, x45, x46, x47, x48, x49, x50, x51, x52, x53, x54, x55, x56, x57, x58, x59, y60, y61, y62, y63, y64, y65, y66, y67, y68, y69, y70, y71, y72, y73, y74, y75, y76, x77, x78, x79, x80, x81, x82, x83], []⟩ w5) := hN
  clear hN
  have hi1 : (i : Int) < (l : Int) := by omega
  have hi0 : (0 : Int) ≤ (i : Int) := by omega
  have hk1 : (k : Int) < (n : Int) := by omega
  have hk0 : (0 : Int) ≤ (k : Int) := by omega
  have hp1 : (pos : Int) < (nc : Int) := by omega
  have hp0 : (0 : Int) ≤ (pos : Int) := by omega
  have HC : Hid (∀ wx : World, wx.heap = W.heap → wx.os = W.os → wx.tape = W.tape → wx.output = W.output → Calls Try.prog 29 #[.slice v.p0 v.l0 v.c0, .int .i64 x] wx fun e w' => e = .returned (.int .i64 (pos : Int)) ∧ w' = wx) := fun wx y1 y2 y3 y4 => by
    have hb : Below W.heap.size W wx := ⟨y2, y3, y4, by rw [y1]; exact Nat.le_refl _, fun _ _ => by rw [y1]⟩
    have := r15place_any _ _ _ is x wx (hLi.below hb)
    rw [hpos] at this
    exact this
  have hb1 : Below W.heap.size W ((W.alloc (.cells #[.int .i64 y] 3)).drew) := bthen (balloc W _) (below_drewN (Below.refl _ _) 1)
  have HO : Hid (IOwn ((W.alloc (.cells #[.int .i64 y] 3)).drew) base sv cs) := World.ownsRow.kept hO (grown_of_below hb1 none) (by cases e : sv.ownBlock with | none => exact .inl rfl | some _ => exact .inr (by simp))
  have hs1 : ((W.alloc (.cells #[.int .i64 y] 3)).drew).heap.size = W.heap.size + 1 := by
    show (W.heap.push _).size = _
    simp
  have HL : Hid (Lsts ((W.alloc (.cells #[.int .i64 y] 3)).drew) (some ⟨W.heap.size, 0, none⟩) 1 1 [y] ∧ cs.length + 1 < 1000000 ∧ base ≤ ((W.alloc (.cells #[.int .i64 y] 3)).drew).heap.size ∧ True) := by
    refine ⟨?_, by omega, by rw [hs1]; omega, trivial⟩
    obtain ⟨a1, k1, e1, h1, -⟩ := (IOwn.lit1 W y).lsts (fun z hz => by simp at hz; subst hz; exact hy)
    cases e1
    exact h1.below (below_drewN (Below.refl _ _) 1)
  have HF : Hid (∀ v5 w5, IOwn w5 base v5 (cs ++ [y]) → ((W.alloc (.cells #[.int .i64 y] 3)).drew).grownBy w5 sv.ownBlock → Hid (IOwn w5 base v5 (cs ++ [y]) ∧ Below base W w5)) := fun v5 w5 h5 g5 => ⟨h5, (hb1.mono hbase).trans (IOwn.low (xs := cs) HO.out g5 (by rw [hs1]; omega))⟩
  clear hi hk hpos hpn hLi hO hcs hbase hb1 hs1 hy
  refine wp_pcOnly ?_
  go_wp2_with fail
  go_region_law (first
    | refine step_fn rfl 29 #[.slice v.p0 v.l0 v.c0, .int .i64 x] (.int .i64 (pos : Int)) (by simp [go_sem, Try.call29]) (HC.out _ rfl rfl rfl rfl) ?_
    | (refine step_appIs _ rfl (.tmp 60) (.tmp 75) rfl base _ cs (by rfl) HO.out _ 1 1 [y] (by rfl) HL.out.1 HL.out.2.1 HL.out.2.2.1 ?_; intro v5 w5 h5 g5; have hF5 := HF.out v5 w5 h5 g5; clear h5 g5)
    | fail)
  all_goals
    go_wp2_with fail
    obtain ⟨f1, f2⟩ := (by assumption : Hid (IOwn _ base _ (cs ++ [y]) ∧ Below base W _)).out
    exact HN.out _ _ _ _ _ _ _ _ _ _ _ _ _ _ _ _ _ _ _ f1 f2

end Go.Proofs.Ytaiikhbfnfcalaa
