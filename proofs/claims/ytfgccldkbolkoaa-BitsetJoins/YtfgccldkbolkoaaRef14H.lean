/-
  The document's sets: both, one number. Written by mk/r14both.py.
-/
import Derived.Test.YtfgccldkbolkoaaRef14G
namespace Go.Proofs.Ytfgccldkbolkoaa
open Go.RowKit

set_option maxRecDepth 100000 in
set_option maxHeartbeats 12800000 in
theorem bo_p11 {x0 x1 x5 x6 x7 x8 x9 x10 x11 x12 x13 x18 x19 x20 x21 x22 x23 x24 x25 x26 x27 x28 x29 x30 x31 x32 x33 x34 x35 x36 x37 x38 x39 x40 x41 x42 x43 x44 x45 x46 x47 x48 x49 x50 x51 x52 x53 x54 x55 x56 x57 x58 x59 x60 x61 x62 x63 x64 x65 x66 x67 x68 x69 x70 x71 x72 x73 x74 x75 x76 x77 x78 x79 x80 x81 x82 x83 x84 : Value} {Q : Exit → Act → World → Prop} {W : World} {p q r x y : Bool} {i base : Nat} {v : Value} {xs : List Int} (hO : IOwn W base v xs) (hl : xs.length < 100000) (hb : base ≤ W.heap.size)
    (hN : ∀ (v' : Value) (wx : World) (y48 y49 y50 y51 y52 y53 y54 y55 y56 y57 y58 y59 y60 y61 y62 y63 y64 y65 y66 y67 y68 y69 y70 y71 y72 y73 y74 y75 y76 y77 y78 : Value), IOwn wx base v' (if ((x && y && p) || (x && !y && q) || (!x && y && r)) = true then xs ++ [(i : Int)] else xs) → Below base W wx → Q .normal ⟨#[x0, x1, .bool p, .bool q, .bool r, x5, x6, x7, x8, x9, x10, x11, x12, x13, v', .int .i64 (i : Int), .bool x, .bool y, x18, x19, x20, x21, x22, x23, x24, x25, x26, x27, x28, x29, x30, x31, x32, x33, x34, x35, x36, x37, x38, x39, x40, x41, x42, x43, x44, x45, x46, x47, y48, y49, y50, y51, y52, y53, y54, y55, y56, y57, y58, y59, y60, y61, y62, y63, y64, y65, y66, y67, y68, y69, y70, y71, y72, y73, y74, y75, y76, y77, y78, x79, x80, x81, x82, x83, x84], []⟩ wx) :
    Code.wp Try.prog (((Try.f27.body.bind (pcBlk 1)).bind (pcFrom 11)).getD .skip) Q ⟨#[x0, x1, .bool p, .bool q, .bool r, x5, x6, x7, x8, x9, x10, x11, x12, x13, v, .int .i64 (i : Int), .bool x, .bool y, x18, x19, x20, x21, x22, x23, x24, x25, x26, x27, x28, x29, x30, x31, x32, x33, x34, x35, x36, x37, x38, x39, x40, x41, x42, x43, x44, x45, x46, x47, x48, x49, x50, x51, x52, x53, x54, x55, x56, x57, x58, x59, x60, x61, x62, x63, x64, x65, x66, x67, x68, x69, x70, x71, x72, x73, x74, x75, x76, x77, x78, x79, x80, x81, x82, x83, x84], []⟩ W := by
  conv => arg 2; whnf
  have HN : Hid (∀ (v' : Value) (wx : World) (y48 y49 y50 y51 y52 y53 y54 y55 y56 y57 y58 y59 y60 y61 y62 y63 y64 y65 y66 y67 y68 y69 y70 y71 y72 y73 y74 y75 y76 y77 y78 : Value), IOwn wx base v' (if ((x && y && p) || (x && !y && q) || (!x && y && r)) = true then xs ++ [(i : Int)] else xs) → Below base W wx → Q .normal ⟨#[x0, x1, .bool p, .bool q, .bool r, x5, x6, x7, x8, x9, x10, x11, x12, x13, v', .int .i64 (i : Int), .bool x, .bool y, x18, x19, x20, x21, x22, x23, x24, x25, x26, x27, x28, x29, x30, x31, x32, x33, x34, x35, x36, x37, x38, x39, x40, x41, x42, x43, x44, x45, x46, x47, y48, y49, y50, y51, y52, y53, y54, y55, y56, y57, y58, y59, y60, y61, y62, y63, y64, y65, y66, y67, y68, y69, y70, y71, y72, y73, y74, y75, y76, y77, y78, x79, x80, x81, x82, x83, x84], []⟩ wx) := hN
  clear hN
  have hlit := balloc W (.cells #[.int .i64 (i : Int)] 3)
  have hO3 := hO.alloc (.cells #[.int .i64 (i : Int)] 3)
  have hlen : xs.length < 1000000 := by omega
  have hbs : base ≤ (W.alloc (.cells #[.int .i64 (i : Int)] 3)).heap.size := Nat.le_trans hb hlit.size
  have HK : Hid (IOwn W base v xs ∧ Below base W (W.alloc (.cells #[.int .i64 (i : Int)] 3))) := ⟨hO, hlit.mono hb⟩
  clear hlit hO hl hb
  cases x <;> cases y <;> cases p <;> cases q <;> cases r
  all_goals
    first
    | (go_wp2_with fail
       exact HN.out _ _ _ _ _ _ _ _ _ _ _ _ _ _ _ _ _ _ _ _ _ _ _ _ _ _ _ _ _ _ _ _ _ HK.out.1 (Below.refl _ _))
    | (go_wp2_with (at_builtin; refine wpList_appI1 _ rfl _ _ 22 rfl Try.underlying22 base _ _ rfl hO3 ⟨W.heap.size, 0, none⟩ (i : Int) rfl (by simp) hlen hbs ?_)
       intro v5 w5 hO5 hg5
       have HB5 : Hid (IOwn w5 base v5 (xs ++ [(i : Int)]) ∧ Below base W w5) := ⟨hO5, HK.out.2.trans ⟨hg5.os, hg5.tape, hg5.output, hg5.size, fun q hq => hg5.block q (Nat.lt_of_lt_of_le hq hbs) (fun e => by have := (World.ownsRow.lt hO3 q e.symm).1; omega)⟩⟩
       clear hO3 hO5 hg5 hbs hlen HK
       go_wp2_with fail
       exact HN.out v5 w5 _ _ _ _ _ _ _ _ _ _ _ _ _ _ _ _ _ _ _ _ _ _ _ _ _ _ _ _ _ _ _ HB5.out.1 HB5.out.2)

end Go.Proofs.Ytfgccldkbolkoaa
