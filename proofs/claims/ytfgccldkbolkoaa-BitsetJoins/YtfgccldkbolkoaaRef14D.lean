/-
  The document's sets: Of. Written by mk/r14of.py.
-/
import Derived.Test.YtfgccldkbolkoaaRef14C
namespace Go.Proofs.Ytfgccldkbolkoaa
open Go.RowKit

set_option maxRecDepth 100000 in
set_option maxHeartbeats 12800000 in
theorem of_p16 {x0 x2 x3 x4 x5 x8 x10 x11 x12 x13 x14 x15 x16 x17 x18 x19 x20 x21 x22 x23 x24 x25 x26 x27 x28 x29 x30 x31 x32 x33 x34 x35 x36 x37 x38 x39 x40 x41 x42 x43 x44 x45 x46 x47 x48 x49 x50 x51 x52 x53 x54 x55 x56 x57 x58 x59 x60 x61 x62 x63 x64 x65 x66 x67 x68 x69 x70 x71 x72 x73 x74 x75 x76 x77 x78 x79 x80 x81 : Value} {Q : Exit → Act → World → Prop} {W : World} {s g b off len cap i q x z m : Nat} (hlt : i < len) (cx : W.cell? ⟨b, off + i, none⟩ = some (.int .i64 (x : Int))) (s1 : W.cell? ⟨s, 1, none⟩ = some (.slice (some ⟨g, 0, none⟩) q q)) (cm : W.cell? ⟨g, x / 64, none⟩ = some (.int .u64 (m : Int))) (fm : W.frozen? ⟨g, x / 64, none⟩ = false) (hx : x / 64 < q) (hx3 : x ≤ 65536) (hm : m + z < 18446744073709551616)
    (hN : ∀ (y62 y63 y64 y65 y66 y67 y68 y69 y70 y71 y72 y73 y74 y75 y76 y77 y78 y79 y80 : Value), Q .normal ⟨#[x0, .slice (some ⟨b, off, none⟩) len cap, x2, x3, x4, x5, .pointer (some ⟨s, 0, none⟩), .int .i64 (i : Int), x8, .int .u64 (z : Int), x10, x11, x12, x13, x14, x15, x16, x17, x18, x19, x20, x21, x22, x23, x24, x25, x26, x27, x28, x29, x30, x31, x32, x33, x34, x35, x36, x37, x38, x39, x40, x41, x42, x43, x44, x45, x46, x47, x48, x49, x50, x51, x52, x53, x54, x55, x56, x57, x58, x59, x60, x61, y62, y63, y64, y65, y66, y67, y68, y69, y70, y71, y72, y73, y74, y75, y76, y77, y78, y79, y80, x81], []⟩ ((W.setCell ⟨g, x / 64, none⟩ (.int .u64 ((m + z : Nat) : Int))).drew)) :
    Code.wp Try.prog (((Try.f12.body.bind (pcBlk 1)).bind (pcAt 16)).getD .skip) Q ⟨#[x0, .slice (some ⟨b, off, none⟩) len cap, x2, x3, x4, x5, .pointer (some ⟨s, 0, none⟩), .int .i64 (i : Int), x8, .int .u64 (z : Int), x10, x11, x12, x13, x14, x15, x16, x17, x18, x19, x20, x21, x22, x23, x24, x25, x26, x27, x28, x29, x30, x31, x32, x33, x34, x35, x36, x37, x38, x39, x40, x41, x42, x43, x44, x45, x46, x47, x48, x49, x50, x51, x52, x53, x54, x55, x56, x57, x58, x59, x60, x61, x62, x63, x64, x65, x66, x67, x68, x69, x70, x71, x72, x73, x74, x75, x76, x77, x78, x79, x80, x81], []⟩ W := by
  conv => arg 2; whnf
  have HN : Hid (∀ (y62 y63 y64 y65 y66 y67 y68 y69 y70 y71 y72 y73 y74 y75 y76 y77 y78 y79 y80 : Value), Q .normal ⟨#[x0, .slice (some ⟨b, off, none⟩) len cap, x2, x3, x4, x5, .pointer (some ⟨s, 0, none⟩), .int .i64 (i : Int), x8, .int .u64 (z : Int), x10, x11, x12, x13, x14, x15, x16, x17, x18, x19, x20, x21, x22, x23, x24, x25, x26, x27, x28, x29, x30, x31, x32, x33, x34, x35, x36, x37, x38, x39, x40, x41, x42, x43, x44, x45, x46, x47, x48, x49, x50, x51, x52, x53, x54, x55, x56, x57, x58, x59, x60, x61, y62, y63, y64, y65, y66, y67, y68, y69, y70, y71, y72, y73, y74, y75, y76, y77, y78, y79, y80, x81], []⟩ ((W.setCell ⟨g, x / 64, none⟩ (.int .u64 ((m + z : Nat) : Int))).drew)) := hN
  clear hN
  have hlti : (i : Int) < (len : Int) := by omega
  have hi0 : (0 : Int) ≤ (i : Int) := by omega
  obtain ⟨p, hp⟩ : ∃ p, p = x / 64 := ⟨_, rfl⟩
  rw [← hp] at HN cm fm hx
  have d1 : (x : Int).tdiv 64 = (p : Int) := by rw [Int.tdiv_eq_ediv_of_nonneg (by omega)]; omega
  have hpi : (p : Int) < (q : Int) := by omega
  have hp0 : (0 : Int) ≤ (p : Int) := by omega
  have hp3 : p ≤ 1024 := by omega
  have hwp : RowKit.wrap64 (p : Int) = (p : Int) := by unfold RowKit.wrap64; omega
  have hwi : IntKind.i64.wrap (p : Int) = (p : Int) := by simp [IntKind.wrap, IntKind.signed, IntKind.bits]; omega
  obtain ⟨y, hy⟩ : ∃ y, y = m + z := ⟨_, rfl⟩
  rw [← hy] at HN
  have ey : (m : Int) + (z : Int) = (y : Int) := by omega
  have hwy : IntKind.u64.wrap (y : Int) = (y : Int) := by simp [IntKind.wrap, IntKind.signed, IntKind.bits]; omega
  clear hp hy hx
  refine wp_pcOnly ?_
  go_wp2_with fail
  go_region_with (fail)
  all_goals
    exact HN.out  _ _ _ _ _ _ _ _ _ _ _ _ _ _ _ _ _ _ _ 

end Go.Proofs.Ytfgccldkbolkoaa
