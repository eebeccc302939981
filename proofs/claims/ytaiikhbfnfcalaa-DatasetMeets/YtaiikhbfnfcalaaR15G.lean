/-
  The document's Align, its first statements. Written by mk/r15align.py.
  The document's Align, more statements. Written by mk/r15align.py.
  The document's Align: a number is put in its place. Written by mk/r15align.py.
  The document's Align. Written by mk/r15align.py.
-/
import Derived.Test.YtaiikhbfnfcalaaR15A
import Derived.BigQuiet
import Derived.Deep.RegionHeld3
import Derived.Deep.RegionLaw
namespace Go.Proofs.Ytaiikhbfnfcalaa
open Go.RowKit

theorem mem_getDL {Ls : List (List Int)} {i : Nat} (hi : i < Ls.length) : Ls.getD i [] ∈ Ls := by simp [List.getD, List.getElem?_eq_getElem hi]
theorem mem_atL {Ls : List (List Int)} {L : List Int} (h : L ∈ Ls) : ∃ j, j < Ls.length ∧ Ls.getD j [] = L := by
  obtain ⟨j, hj, e⟩ := List.mem_iff_getElem.1 h
  exact ⟨j, hj, by simp [List.getD, List.getElem?_eq_getElem hj, e]⟩
set_option maxRecDepth 100000 in
set_option maxHeartbeats 12800000 in
theorem al_p0 {x0 x1 x2 x3 x4 x5 x6 x7 x8 x9 x10 x11 x12 x13 x14 x15 x16 x17 x18 x19 x20 x21 x22 x23 x24 x25 x26 x27 x28 x29 x30 x31 x32 x33 x34 x35 x36 x37 x38 x39 x40 x41 x42 x43 x44 x45 x46 x47 x48 x49 x50 x51 x52 x53 x54 x55 x56 x57 x58 x59 x60 x61 x62 x63 x64 x65 x66 x67 x68 x69 x70 x71 x72 x73 x74 x75 x76 x77 x78 x79 x80 x81 x82 x83 x84 x85 x86 x87 x88 x89 x90 x91 x92 x93 x94 x95 x96 x97 : Value} {Q : Exit → Act → World → Prop} {W : World} 
    (hN : Q .normal ⟨#[x0, x1, .slice none 0 0, .int .i64 0, x4, x5, x6, x7, x8, x9, x10, x11, x12, x13, x14, x15, x16, x17, x18, x19, x20, x21, x22, x23, x24, x25, x26, x27, x28, x29, x30, x31, x32, x33, x34, x35, x36, x37, x38, x39, x40, x41, x42, x43, x44, x45, x46, x47, x48, x49, x50, x51, x52, x53, x54, x55, x56, x57, x58, x59, x60, x61, x62, x63, x64, x65, x66, x67, x68, x69, x70, x71, x72, x73, x74, x75, x76, x77, x78, x79, x80, x81, x82, x83, x84, x85, x86, x87, x88, x89, x90, x91, x92, x93, x94, x95, x96, x97], []⟩ W) :
    Code.wp Try.prog ((Try.f13.body.bind (pcAt 0)).getD .skip) Q ⟨#[x0, x1, x2, x3, x4, x5, x6, x7, x8, x9, x10, x11, x12, x13, x14, x15, x16, x17, x18, x19, x20, x21, x22, x23, x24, x25, x26, x27, x28, x29, x30, x31, x32, x33, x34, x35, x36, x37, x38, x39, x40, x41, x42, x43, x44, x45, x46, x47, x48, x49, x50, x51, x52, x53, x54, x55, x56, x57, x58, x59, x60, x61, x62, x63, x64, x65, x66, x67, x68, x69, x70, x71, x72, x73, x74, x75, x76, x77, x78, x79, x80, x81, x82, x83, x84, x85, x86, x87, x88, x89, x90, x91, x92, x93, x94, x95, x96, x97], []⟩ W := by
  conv => arg 2; whnf
  have HN : Hid (Q .normal ⟨#[x0, x1, .slice none 0 0, .int .i64 0, x4, x5, x6, x7, x8, x9, x10, x11, x12, x13, x14, x15, x16, x17, x18, x19, x20, x21, x22, x23, x24, x25, x26, x27, x28, x29, x30, x31, x32, x33, x34, x35, x36, x37, x38, x39, x40, x41, x42, x43, x44, x45, x46, x47, x48, x49, x50, x51, x52, x53, x54, x55, x56, x57, x58, x59, x60, x61, x62, x63, x64, x65, x66, x67, x68, x69, x70, x71, x72, x73, x74, x75, x76, x77, x78, x79, x80, x81, x82, x83, x84, x85, x86, x87, x88, x89, x90, x91, x92, x93, x94, x95, x96, x97], []⟩ W) := hN
  clear hN
  go_wp2_with fail
  exact HN.out   

set_option maxRecDepth 100000 in
set_option maxHeartbeats 12800000 in
theorem al_p1 {x1 x2 x3 x4 x5 x6 x7 x8 x9 x10 x11 x12 x13 x14 x15 x16 x17 x18 x19 x20 x21 x22 x23 x24 x25 x26 x27 x28 x29 x30 x31 x32 x33 x34 x35 x36 x37 x38 x39 x40 x41 x42 x43 x44 x45 x46 x47 x48 x49 x50 x51 x52 x53 x54 x55 x56 x57 x58 x59 x60 x61 x62 x63 x64 x65 x66 x67 x68 x69 x70 x71 x72 x73 x74 x75 x76 x77 x78 x79 x80 x81 x82 x83 x84 x85 x86 x87 x88 x89 x90 x91 x92 x93 x94 x95 x96 x97 : Value} {Q : Exit → Act → World → Prop} {W : World} {a : Option Addr} {l c : Nat} 
    (hN : ∀ (y2 y3 y11 y12 y13 y14 y15 y16 y17 y18 : Value), FewL l → Q .normal ⟨#[.slice a l c, x1, y2, y3, x4, x5, x6, x7, x8, x9, x10, y11, y12, y13, y14, y15, y16, y17, y18, x19, x20, x21, x22, x23, x24, x25, x26, x27, x28, x29, x30, x31, x32, x33, x34, x35, x36, x37, x38, x39, x40, x41, x42, x43, x44, x45, x46, x47, x48, x49, x50, x51, x52, x53, x54, x55, x56, x57, x58, x59, x60, x61, x62, x63, x64, x65, x66, x67, x68, x69, x70, x71, x72, x73, x74, x75, x76, x77, x78, x79, x80, x81, x82, x83, x84, x85, x86, x87, x88, x89, x90, x91, x92, x93, x94, x95, x96, x97], []⟩ W)
    (hR : ∀ (y11 y12 y13 y14 y15 y16 y17 y18 : Value), ¬ FewL l → Q .ret ⟨#[.slice a l c, x1, .slice none 0 0, .int .i64 1, x4, x5, x6, x7, x8, x9, x10, y11, y12, y13, y14, y15, y16, y17, y18, x19, x20, x21, x22, x23, x24, x25, x26, x27, x28, x29, x30, x31, x32, x33, x34, x35, x36, x37, x38, x39, x40, x41, x42, x43, x44, x45, x46, x47, x48, x49, x50, x51, x52, x53, x54, x55, x56, x57, x58, x59, x60, x61, x62, x63, x64, x65, x66, x67, x68, x69, x70, x71, x72, x73, x74, x75, x76, x77, x78, x79, x80, x81, x82, x83, x84, x85, x86, x87, x88, x89, x90, x91, x92, x93, x94, x95, x96, x97], []⟩ W) :
    Code.wp Try.prog ((Try.f13.body.bind (pcAt 1)).getD .skip) Q ⟨#[.slice a l c, x1, x2, x3, x4, x5, x6, x7, x8, x9, x10, x11, x12, x13, x14, x15, x16, x17, x18, x19, x20, x21, x22, x23, x24, x25, x26, x27, x28, x29, x30, x31, x32, x33, x34, x35, x36, x37, x38, x39, x40, x41, x42, x43, x44, x45, x46, x47, x48, x49, x50, x51, x52, x53, x54, x55, x56, x57, x58, x59, x60, x61, x62, x63, x64, x65, x66, x67, x68, x69, x70, x71, x72, x73, x74, x75, x76, x77, x78, x79, x80, x81, x82, x83, x84, x85, x86, x87, x88, x89, x90, x91, x92, x93, x94, x95, x96, x97], []⟩ W := by
  conv => arg 2; whnf
  have HN : Hid (∀ (y2 y3 y11 y12 y13 y14 y15 y16 y17 y18 : Value), FewL l → Q .normal ⟨#[.slice a l c, x1, y2, y3, x4, x5, x6, x7, x8, x9, x10, y11, y12, y13, y14, y15, y16, y17, y18, x19, x20, x21, x22, x23, x24, x25, x26, x27, x28, x29, x30, x31, x32, x33, x34, x35, x36, x37, x38, x39, x40, x41, x42, x43, x44, x45, x46, x47, x48, x49, x50, x51, x52, x53, x54, x55, x56, x57, x58, x59, x60, x61, x62, x63, x64, x65, x66, x67, x68, x69, x70, x71, x72, x73, x74, x75, x76, x77, x78, x79, x80, x81, x82, x83, x84, x85, x86, x87, x88, x89, x90, x91, x92, x93, x94, x95, x96, x97], []⟩ W) := hN
  have HR : Hid (∀ (y11 y12 y13 y14 y15 y16 y17 y18 : Value), ¬ FewL l → Q .ret ⟨#[.slice a l c, x1, .slice none 0 0, .int .i64 1, x4, x5, x6, x7, x8, x9, x10, y11, y12, y13, y14, y15, y16, y17, y18, x19, x20, x21, x22, x23, x24, x25, x26, x27, x28, x29, x30, x31, x32, x33, x34, x35, x36, x37, x38, x39, x40, x41, x42, x43, x44, x45, x46, x47, x48, x49, x50, x51, x52, x53, x54, x55, x56, x57, x58, x59, x60, x61, x62, x63, x64, x65, x66, x67, x68, x69, x70, x71, x72, x73, x74, x75, x76, x77, x78, x79, x80, x81, x82, x83, x84, x85, x86, x87, x88, x89, x90, x91, x92, x93, x94, x95, x96, x97], []⟩ W) := hR
  clear hN hR
  by_cases h1 : l = 0
  · have d1 : ((l : Int) == 0) = true := by simp [h1]
    have HX : Hid (¬ FewL l) := fun e => e.1 h1
    clear HN
    subst h1
    go_wp2_with fail
    exact HR.out  _ _ _ _ _ _ _ _ HX.out
  have d1 : ((l : Int) == 0) = false := by simp [h1]
  by_cases h2 : 16 < l
  · have d2 : decide (16 < l) = true := decide_eq_true h2
    have d2i : decide ((16 : Int) < (l : Int)) = true := decide_eq_true (by omega)
    have HX : Hid (¬ FewL l) := fun e => by have := e.2; omega
    clear HN h1 h2
    go_wp2_with fail
    exact HR.out  _ _ _ _ _ _ _ _ HX.out
  · have d2 : decide (16 < l) = false := decide_eq_false h2
    have d2i : decide ((16 : Int) < (l : Int)) = false := decide_eq_false (by omega)
    have HX : Hid (FewL l) := ⟨h1, by omega⟩
    clear HR h1 h2
    go_wp2_with fail
    exact HN.out  _ _ _ _ _ _ _ _ _ _ HX.out

set_option maxRecDepth 100000 in
set_option maxHeartbeats 12800000 in
theorem al_t4 {x1 x2 x3 x5 x6 x7 x8 x9 x10 x11 x12 x13 x14 x15 x16 x17 x18 x19 x20 x21 x22 x23 x24 x25 x26 x27 x28 x29 x30 x31 x32 x33 x34 x35 x36 x37 x38 x39 x40 x41 x42 x43 x44 x45 x46 x47 x48 x49 x50 x51 x52 x53 x54 x55 x56 x57 x58 x59 x60 x61 x62 x63 x64 x65 x66 x67 x68 x69 x70 x71 x72 x73 x74 x75 x76 x77 x78 x79 x80 x81 x82 x83 x84 x85 x86 x87 x88 x89 x90 x91 x92 x93 x94 x95 x96 x97 : Value} {Q : Exit → Act → World → Prop} {W : World} {a : Option Addr} {l c i : Nat} (hi : i ≤ l)
    (hN : ∀ (y19 y20 y21 y22 : Value), i < l → Q .normal ⟨#[.slice a l c, x1, x2, x3, .int .i64 (i : Int), x5, x6, x7, x8, x9, x10, x11, x12, x13, x14, x15, x16, x17, x18, y19, y20, y21, y22, x23, x24, x25, x26, x27, x28, x29, x30, x31, x32, x33, x34, x35, x36, x37, x38, x39, x40, x41, x42, x43, x44, x45, x46, x47, x48, x49, x50, x51, x52, x53, x54, x55, x56, x57, x58, x59, x60, x61, x62, x63, x64, x65, x66, x67, x68, x69, x70, x71, x72, x73, x74, x75, x76, x77, x78, x79, x80, x81, x82, x83, x84, x85, x86, x87, x88, x89, x90, x91, x92, x93, x94, x95, x96, x97], []⟩ W)
    (hE : ∀ (y19 y20 y21 y22 : Value), i = l → Q (.exit 0) ⟨#[.slice a l c, x1, x2, x3, .int .i64 (i : Int), x5, x6, x7, x8, x9, x10, x11, x12, x13, x14, x15, x16, x17, x18, y19, y20, y21, y22, x23, x24, x25, x26, x27, x28, x29, x30, x31, x32, x33, x34, x35, x36, x37, x38, x39, x40, x41, x42, x43, x44, x45, x46, x47, x48, x49, x50, x51, x52, x53, x54, x55, x56, x57, x58, x59, x60, x61, x62, x63, x64, x65, x66, x67, x68, x69, x70, x71, x72, x73, x74, x75, x76, x77, x78, x79, x80, x81, x82, x83, x84, x85, x86, x87, x88, x89, x90, x91, x92, x93, x94, x95, x96, x97], []⟩ W) :
    Code.wp Try.prog (((Try.f13.body.bind (pcLoop 0)).bind (pcAt 4)).getD .skip) Q ⟨#[.slice a l c, x1, x2, x3, .int .i64 (i : Int), x5, x6, x7, x8, x9, x10, x11, x12, x13, x14, x15, x16, x17, x18, x19, x20, x21, x22, x23, x24, x25, x26, x27, x28, x29, x30, x31, x32, x33, x34, x35, x36, x37, x38, x39, x40, x41, x42, x43, x44, x45, x46, x47, x48, x49, x50, x51, x52, x53, x54, x55, x56, x57, x58, x59, x60, x61, x62, x63, x64, x65, x66, x67, x68, x69, x70, x71, x72, x73, x74, x75, x76, x77, x78, x79, x80, x81, x82, x83, x84, x85, x86, x87, x88, x89, x90, x91, x92, x93, x94, x95, x96, x97], []⟩ W := by
  conv => arg 2; whnf
  have HN : Hid (∀ (y19 y20 y21 y22 : Value), i < l → Q .normal ⟨#[.slice a l c, x1, x2, x3, .int .i64 (i : Int), x5, x6, x7, x8, x9, x10, x11, x12, x13, x14, x15, x16, x17, x18, y19, y20, y21, y22, x23, x24, x25, x26, x27, x28, x29, x30, x31, x32, x33, x34, x35, x36, x37, x38, x39, x40, x41, x42, x43, x44, x45, x46, x47, x48, x49, x50, x51, x52, x53, x54, x55, x56, x57, x58, x59, x60, x61, x62, x63, x64, x65, x66, x67, x68, x69, x70, x71, x72, x73, x74, x75, x76, x77, x78, x79, x80, x81, x82, x83, x84, x85, x86, x87, x88, x89, x90, x91, x92, x93, x94, x95, x96, x97], []⟩ W) := hN
  have HE : Hid (∀ (y19 y20 y21 y22 : Value), i = l → Q (.exit 0) ⟨#[.slice a l c, x1, x2, x3, .int .i64 (i : Int), x5, x6, x7, x8, x9, x10, x11, x12, x13, x14, x15, x16, x17, x18, y19, y20, y21, y22, x23, x24, x25, x26, x27, x28, x29, x30, x31, x32, x33, x34, x35, x36, x37, x38, x39, x40, x41, x42, x43, x44, x45, x46, x47, x48, x49, x50, x51, x52, x53, x54, x55, x56, x57, x58, x59, x60, x61, x62, x63, x64, x65, x66, x67, x68, x69, x70, x71, x72, x73, x74, x75, x76, x77, x78, x79, x80, x81, x82, x83, x84, x85, x86, x87, x88, x89, x90, x91, x92, x93, x94, x95, x96, x97], []⟩ W) := hE
  clear hN hE
  by_cases hlt : i < l
  · have hlti : (i : Int) < (l : Int) := by omega
    clear HE
    go_wp2_with fail
    exact HN.out  _ _ _ _ hlt
  · have hlti : decide (i < l) = false := decide_eq_false hlt
    have HE2 : Hid (i = l) := by show _ = _; omega
    clear HN hi
    go_wp2_with fail
    exact HE.out  _ _ _ _ HE2.out

set_option maxRecDepth 100000 in
set_option maxHeartbeats 12800000 in
theorem al_p6 {x1 x2 x3 x5 x6 x7 x8 x9 x10 x11 x12 x13 x14 x15 x16 x17 x18 x19 x20 x21 x22 x23 x24 x25 x26 x27 x28 x29 x30 x31 x32 x33 x34 x35 x36 x37 x38 x39 x40 x41 x42 x43 x44 x45 x46 x47 x48 x49 x50 x51 x52 x53 x54 x55 x56 x57 x58 x59 x60 x61 x62 x63 x64 x65 x66 x67 x68 x69 x70 x71 x72 x73 x74 x75 x76 x77 x78 x79 x80 x81 x82 x83 x84 x85 x86 x87 x88 x89 x90 x91 x92 x93 x94 x95 x96 x97 : Value} {Q : Exit → Act → World → Prop} {W : World} {b off l c i n k : Nat} {p : Option Addr} {xs : List Int} (hi : i < l) (m : W.cell? ⟨b, off + i, none⟩ = some (.slice p n k)) (hL : Lsts W p n k xs)
    (hN : ∀ (z : Bool) (y25 y26 y27 y28 y29 : Value), (z = true ↔ IdsOk xs) → Q .normal ⟨#[.slice (some ⟨b, off, none⟩) l c, x1, x2, x3, .int .i64 (i : Int), .bool z, x6, x7, x8, x9, x10, x11, x12, x13, x14, x15, x16, x17, x18, x19, x20, x21, x22, x23, x24, y25, y26, y27, y28, y29, x30, x31, x32, x33, x34, x35, x36, x37, x38, x39, x40, x41, x42, x43, x44, x45, x46, x47, x48, x49, x50, x51, x52, x53, x54, x55, x56, x57, x58, x59, x60, x61, x62, x63, x64, x65, x66, x67, x68, x69, x70, x71, x72, x73, x74, x75, x76, x77, x78, x79, x80, x81, x82, x83, x84, x85, x86, x87, x88, x89, x90, x91, x92, x93, x94, x95, x96, x97], []⟩ W) :
    Code.wp Try.prog (((Try.f13.body.bind (pcBlk 1)).bind (pcAt 6)).getD .skip) Q ⟨#[.slice (some ⟨b, off, none⟩) l c, x1, x2, x3, .int .i64 (i : Int), x5, x6, x7, x8, x9, x10, x11, x12, x13, x14, x15, x16, x17, x18, x19, x20, x21, x22, x23, x24, x25, x26, x27, x28, x29, x30, x31, x32, x33, x34, x35, x36, x37, x38, x39, x40, x41, x42, x43, x44, x45, x46, x47, x48, x49, x50, x51, x52, x53, x54, x55, x56, x57, x58, x59, x60, x61, x62, x63, x64, x65, x66, x67, x68, x69, x70, x71, x72, x73, x74, x75, x76, x77, x78, x79, x80, x81, x82, x83, x84, x85, x86, x87, x88, x89, x90, x91, x92, x93, x94, x95, x96, x97], []⟩ W := by
  conv => arg 2; whnf
  have HN : Hid (∀ (z : Bool) (y25 y26 y27 y28 y29 : Value), (z = true ↔ IdsOk xs) → Q .normal ⟨#[.slice (some ⟨b, off, none⟩) l c, x1, x2, x3, .int .i64 (i : Int), .bool z, x6, x7, x8, x9, x10, x11, x12, x13, x14, x15, x16, x17, x18, x19, x20, x21, x22, x23, x24, y25, y26, y27, y28, y29, x30, x31, x32, x33, x34, x35, x36, x37, x38, x39, x40, x41, x42, x43, x44, x45, x46, x47, x48, x49, x50, x51, x52, x53, x54, x55, x56, x57, x58, x59, x60, x61, x62, x63, x64, x65, x66, x67, x68, x69, x70, x71, x72, x73, x74, x75, x76, x77, x78, x79, x80, x81, x82, x83, x84, x85, x86, x87, x88, x89, x90, x91, x92, x93, x94, x95, x96, x97], []⟩ W) := hN
  clear hN
  have hi1 : (i : Int) < (l : Int) := by omega
  have hi0 : (0 : Int) ≤ (i : Int) := by omega
  have HC := (show Hid _ from r15ids_any p n k xs W hL)
  clear hL
  go_wp2_with fail
  refine Calls.mono HC.out ?_
  rintro e w2 ⟨z, rfl, hb, rfl⟩
  have HB : Hid (z = true ↔ IdsOk xs) := hb
  clear hb HC
  go_wp2_with fail
  exact HN.out _ _ _ _ _ _ HB.out

set_option maxRecDepth 100000 in
set_option maxHeartbeats 12800000 in
theorem al_p7 {x0 x1 x2 x3 x4 x6 x7 x8 x9 x10 x11 x12 x13 x14 x15 x16 x17 x18 x19 x20 x21 x22 x23 x24 x25 x26 x27 x28 x29 x30 x31 x32 x33 x34 x35 x36 x37 x38 x39 x40 x41 x42 x43 x44 x45 x46 x47 x48 x49 x50 x51 x52 x53 x54 x55 x56 x57 x58 x59 x60 x61 x62 x63 x64 x65 x66 x67 x68 x69 x70 x71 x72 x73 x74 x75 x76 x77 x78 x79 x80 x81 x82 x83 x84 x85 x86 x87 x88 x89 x90 x91 x92 x93 x94 x95 x96 x97 : Value} {Q : Exit → Act → World → Prop} {W : World} {z : Bool} 
    (hN : ∀ (y2 y3 y30 y31 : Value), z = true → Q .normal ⟨#[x0, x1, y2, y3, x4, .bool z, x6, x7, x8, x9, x10, x11, x12, x13, x14, x15, x16, x17, x18, x19, x20, x21, x22, x23, x24, x25, x26, x27, x28, x29, y30, y31, x32, x33, x34, x35, x36, x37, x38, x39, x40, x41, x42, x43, x44, x45, x46, x47, x48, x49, x50, x51, x52, x53, x54, x55, x56, x57, x58, x59, x60, x61, x62, x63, x64, x65, x66, x67, x68, x69, x70, x71, x72, x73, x74, x75, x76, x77, x78, x79, x80, x81, x82, x83, x84, x85, x86, x87, x88, x89, x90, x91, x92, x93, x94, x95, x96, x97], []⟩ W)
    (hR : ∀ (y30 y31 : Value), z = false → Q .ret ⟨#[x0, x1, .slice none 0 0, .int .i64 20, x4, .bool z, x6, x7, x8, x9, x10, x11, x12, x13, x14, x15, x16, x17, x18, x19, x20, x21, x22, x23, x24, x25, x26, x27, x28, x29, y30, y31, x32, x33, x34, x35, x36, x37, x38, x39, x40, x41, x42, x43, x44, x45, x46, x47, x48, x49, x50, x51, x52, x53, x54, x55, x56, x57, x58, x59, x60, x61, x62, x63, x64, x65, x66, x67, x68, x69, x70, x71, x72, x73, x74, x75, x76, x77, x78, x79, x80, x81, x82, x83, x84, x85, x86, x87, x88, x89, x90, x91, x92, x93, x94, x95, x96, x97], []⟩ W) :
    Code.wp Try.prog (((Try.f13.body.bind (pcBlk 1)).bind (pcFrom 7)).getD .skip) Q ⟨#[x0, x1, x2, x3, x4, .bool z, x6, x7, x8, x9, x10, x11, x12, x13, x14, x15, x16, x17, x18, x19, x20, x21, x22, x23, x24, x25, x26, x27, x28, x29, x30, x31, x32, x33, x34, x35, x36, x37, x38, x39, x40, x41, x42, x43, x44, x45, x46, x47, x48, x49, x50, x51, x52, x53, x54, x55, x56, x57, x58, x59, x60, x61, x62, x63, x64, x65, x66, x67, x68, x69, x70, x71, x72, x73, x74, x75, x76, x77, x78, x79, x80, x81, x82, x83, x84, x85, x86, x87, x88, x89, x90, x91, x92, x93, x94, x95, x96, x97], []⟩ W := by
  conv => arg 2; whnf
  have HN : Hid (∀ (y2 y3 y30 y31 : Value), z = true → Q .normal ⟨#[x0, x1, y2, y3, x4, .bool z, x6, x7, x8, x9, x10, x11, x12, x13, x14, x15, x16, x17, x18, x19, x20, x21, x22, x23, x24, x25, x26, x27, x28, x29, y30, y31, x32, x33, x34, x35, x36, x37, x38, x39, x40, x41, x42, x43, x44, x45, x46, x47, x48, x49, x50, x51, x52, x53, x54, x55, x56, x57, x58, x59, x60, x61, x62, x63, x64, x65, x66, x67, x68, x69, x70, x71, x72, x73, x74, x75, x76, x77, x78, x79, x80, x81, x82, x83, x84, x85, x86, x87, x88, x89, x90, x91, x92, x93, x94, x95, x96, x97], []⟩ W) := hN
  have HR : Hid (∀ (y30 y31 : Value), z = false → Q .ret ⟨#[x0, x1, .slice none 0 0, .int .i64 20, x4, .bool z, x6, x7, x8, x9, x10, x11, x12, x13, x14, x15, x16, x17, x18, x19, x20, x21, x22, x23, x24, x25, x26, x27, x28, x29, y30, y31, x32, x33, x34, x35, x36, x37, x38, x39, x40, x41, x42, x43, x44, x45, x46, x47, x48, x49, x50, x51, x52, x53, x54, x55, x56, x57, x58, x59, x60, x61, x62, x63, x64, x65, x66, x67, x68, x69, x70, x71, x72, x73, x74, x75, x76, x77, x78, x79, x80, x81, x82, x83, x84, x85, x86, x87, x88, x89, x90, x91, x92, x93, x94, x95, x96, x97], []⟩ W) := hR
  clear hN hR
  cases z with
  | true =>
    clear HR
    go_wp2_with fail
    exact HN.out  _ _ _ _ (by trivial)
  | false =>
    clear HN
    go_wp2_with fail
    exact HR.out  _ _ (by trivial)

set_option maxRecDepth 100000 in
set_option maxHeartbeats 12800000 in
theorem al_p5 {x0 x1 x2 x3 x5 x6 x7 x8 x9 x10 x11 x12 x13 x14 x15 x16 x17 x18 x19 x20 x21 x22 x23 x24 x25 x26 x27 x28 x29 x30 x31 x32 x33 x34 x35 x36 x37 x38 x39 x40 x41 x42 x43 x44 x45 x46 x47 x48 x49 x50 x51 x52 x53 x54 x55 x56 x57 x58 x59 x60 x61 x62 x63 x64 x65 x66 x67 x68 x69 x70 x71 x72 x73 x74 x75 x76 x77 x78 x79 x80 x81 x82 x83 x84 x85 x86 x87 x88 x89 x90 x91 x92 x93 x94 x95 x96 x97 : Value} {Q : Exit → Act → World → Prop} {W : World} {i : Nat} (h : i < 9223372036854775807)
    (hN : ∀ (y23 y24 : Value), Q .normal ⟨#[x0, x1, x2, x3, .int .i64 ((i + 1 : Nat) : Int), x5, x6, x7, x8, x9, x10, x11, x12, x13, x14, x15, x16, x17, x18, x19, x20, x21, x22, y23, y24, x25, x26, x27, x28, x29, x30, x31, x32, x33, x34, x35, x36, x37, x38, x39, x40, x41, x42, x43, x44, x45, x46, x47, x48, x49, x50, x51, x52, x53, x54, x55, x56, x57, x58, x59, x60, x61, x62, x63, x64, x65, x66, x67, x68, x69, x70, x71, x72, x73, x74, x75, x76, x77, x78, x79, x80, x81, x82, x83, x84, x85, x86, x87, x88, x89, x90, x91, x92, x93, x94, x95, x96, x97], []⟩ W) :
    Code.wp Try.prog (((Try.f13.body.bind (pcLoop 0)).bind (pcAt 5)).getD .skip) Q ⟨#[x0, x1, x2, x3, .int .i64 (i : Int), x5, x6, x7, x8, x9, x10, x11, x12, x13, x14, x15, x16, x17, x18, x19, x20, x21, x22, x23, x24, x25, x26, x27, x28, x29, x30, x31, x32, x33, x34, x35, x36, x37, x38, x39, x40, x41, x42, x43, x44, x45, x46, x47, x48, x49, x50, x51, x52, x53, x54, x55, x56, x57, x58, x59, x60, x61, x62, x63, x64, x65, x66, x67, x68, x69, x70, x71, x72, x73, x74, x75, x76, x77, x78, x79, x80, x81, x82, x83, x84, x85, x86, x87, x88, x89, x90, x91, x92, x93, x94, x95, x96, x97], []⟩ W := by
  conv => arg 2; whnf
  have HN : Hid (∀ (y23 y24 : Value), Q .normal ⟨#[x0, x1, x2, x3, .int .i64 ((i + 1 : Nat) : Int), x5, x6, x7, x8, x9, x10, x11, x12, x13, x14, x15, x16, x17, x18, x19, x20, x21, x22, y23, y24, x25, x26, x27, x28, x29, x30, x31, x32, x33, x34, x35, x36, x37, x38, x39, x40, x41, x42, x43, x44, x45, x46, x47, x48, x49, x50, x51, x52, x53, x54, x55, x56, x57, x58, x59, x60, x61, x62, x63, x64, x65, x66, x67, x68, x69, x70, x71, x72, x73, x74, x75, x76, x77, x78, x79, x80, x81, x82, x83, x84, x85, x86, x87, x88, x89, x90, x91, x92, x93, x94, x95, x96, x97], []⟩ W) := hN
  clear hN
  have e : ((i + 1 : Nat) : Int) = (i : Int) + 1 := by omega
  rw [e] at HN
  go_wp2_with fail
  exact HN.out  _ _ 

set_option maxRecDepth 100000 in
set_option maxHeartbeats 12800000 in
theorem al_l0 {x1 x2 x3 x4 x5 x6 x7 x8 x9 x10 x11 x12 x13 x14 x15 x16 x17 x18 x19 x20 x21 x22 x23 x24 x25 x26 x27 x28 x29 x30 x31 x32 x33 x34 x35 x36 x37 x38 x39 x40 x41 x42 x43 x44 x45 x46 x47 x48 x49 x50 x51 x52 x53 x54 x55 x56 x57 x58 x59 x60 x61 x62 x63 x64 x65 x66 x67 x68 x69 x70 x71 x72 x73 x74 x75 x76 x77 x78 x79 x80 x81 x82 x83 x84 x85 x86 x87 x88 x89 x90 x91 x92 x93 x94 x95 x96 x97 : Value} {Q : Exit → Act → World → Prop} {W : World} {a : Option Addr} {l c : Nat} {Ls : List (List Int)} (h : IRows W a l c Ls)
    (hN : ∀ (y2 y3 y4 y5 y19 y20 y21 y22 y23 y24 y25 y26 y27 y28 y29 y30 y31 : Value), IdsAll Ls → Q .normal ⟨#[.slice a l c, x1, y2, y3, y4, y5, x6, x7, x8, x9, x10, x11, x12, x13, x14, x15, x16, x17, x18, y19, y20, y21, y22, y23, y24, y25, y26, y27, y28, y29, y30, y31, x32, x33, x34, x35, x36, x37, x38, x39, x40, x41, x42, x43, x44, x45, x46, x47, x48, x49, x50, x51, x52, x53, x54, x55, x56, x57, x58, x59, x60, x61, x62, x63, x64, x65, x66, x67, x68, x69, x70, x71, x72, x73, x74, x75, x76, x77, x78, x79, x80, x81, x82, x83, x84, x85, x86, x87, x88, x89, x90, x91, x92, x93, x94, x95, x96, x97], []⟩ W)
    (hR : ∀ (y4 y5 y19 y20 y21 y22 y23 y24 y25 y26 y27 y28 y29 y30 y31 : Value), ¬ IdsAll Ls → Q .ret ⟨#[.slice a l c, x1, .slice none 0 0, .int .i64 20, y4, y5, x6, x7, x8, x9, x10, x11, x12, x13, x14, x15, x16, x17, x18, y19, y20, y21, y22, y23, y24, y25, y26, y27, y28, y29, y30, y31, x32, x33, x34, x35, x36, x37, x38, x39, x40, x41, x42, x43, x44, x45, x46, x47, x48, x49, x50, x51, x52, x53, x54, x55, x56, x57, x58, x59, x60, x61, x62, x63, x64, x65, x66, x67, x68, x69, x70, x71, x72, x73, x74, x75, x76, x77, x78, x79, x80, x81, x82, x83, x84, x85, x86, x87, x88, x89, x90, x91, x92, x93, x94, x95, x96, x97], []⟩ W) :
    Code.wp Try.prog ((Try.f13.body.bind (pcAt 3)).getD .skip) Q ⟨#[.slice a l c, x1, x2, x3, x4, x5, x6, x7, x8, x9, x10, x11, x12, x13, x14, x15, x16, x17, x18, x19, x20, x21, x22, x23, x24, x25, x26, x27, x28, x29, x30, x31, x32, x33, x34, x35, x36, x37, x38, x39, x40, x41, x42, x43, x44, x45, x46, x47, x48, x49, x50, x51, x52, x53, x54, x55, x56, x57, x58, x59, x60, x61, x62, x63, x64, x65, x66, x67, x68, x69, x70, x71, x72, x73, x74, x75, x76, x77, x78, x79, x80, x81, x82, x83, x84, x85, x86, x87, x88, x89, x90, x91, x92, x93, x94, x95, x96, x97], []⟩ W := by
  conv => arg 2; whnf
  have HN : Hid (∀ (y2 y3 y4 y5 y19 y20 y21 y22 y23 y24 y25 y26 y27 y28 y29 y30 y31 : Value), IdsAll Ls → Q .normal ⟨#[.slice a l c, x1, y2, y3, y4, y5, x6, x7, x8, x9, x10, x11, x12, x13, x14, x15, x16, x17, x18, y19, y20, y21, y22, y23, y24, y25, y26, y27, y28, y29, y30, y31, x32, x33, x34, x35, x36, x37, x38, x39, x40, x41, x42, x43, x44, x45, x46, x47, x48, x49, x50, x51, x52, x53, x54, x55, x56, x57, x58, x59, x60, x61, x62, x63, x64, x65, x66, x67, x68, x69, x70, x71, x72, x73, x74, x75, x76, x77, x78, x79, x80, x81, x82, x83, x84, x85, x86, x87, x88, x89, x90, x91, x92, x93, x94, x95, x96, x97], []⟩ W) := hN
  have HR : Hid (∀ (y4 y5 y19 y20 y21 y22 y23 y24 y25 y26 y27 y28 y29 y30 y31 : Value), ¬ IdsAll Ls → Q .ret ⟨#[.slice a l c, x1, .slice none 0 0, .int .i64 20, y4, y5, x6, x7, x8, x9, x10, x11, x12, x13, x14, x15, x16, x17, x18, y19, y20, y21, y22, y23, y24, y25, y26, y27, y28, y29, y30, y31, x32, x33, x34, x35, x36, x37, x38, x39, x40, x41, x42, x43, x44, x45, x46, x47, x48, x49, x50, x51, x52, x53, x54, x55, x56, x57, x58, x59, x60, x61, x62, x63, x64, x65, x66, x67, x68, x69, x70, x71, x72, x73, x74, x75, x76, x77, x78, x79, x80, x81, x82, x83, x84, x85, x86, x87, x88, x89, x90, x91, x92, x93, x94, x95, x96, x97], []⟩ W) := hR
  clear hN hR
  have hm := h.hmax
  have hc := h.hcap
  unfold maxLen at hm
  refine pcSeq (fun Q1 n1 r1 _ => ?_)
  go_wp2_with fail
  refine n1 _ _ (pcBlock (fun Q2 n2 e2 r2 => ?_))
  go_loopw [4] (fun v4 wr => W = wr ∧ ∃ i : Nat, v4 = .int .i64 (i : Int) ∧ i ≤ l ∧ ∀ j, j < i → IdsOk (Ls.getD j [])) (fun v4 _ => l - (intOf v4).toNat)
  case atStart => exact ⟨by trivial, 0, rfl, Nat.zero_le _, fun j hj => absurd hj (by omega)⟩
  case round =>
    obtain ⟨rfl, i, rfl, hi, hall⟩ := hrel
    refine pcSeq (fun Q3 n3 r3 e3 => al_t4 hi ?_ ?_)
    · intros
      rename_i hlt
      refine n3 _ _ (pcSeq (fun Q4 n4 r4 e4 => pcBlock (fun Q5 n5 e5 r5 => ?_)))
      obtain ⟨b, off, p, n, k, rfl, m, hL⟩ := h.at hlt
      refine pcSeq (fun Q6 n6 r6 e6 => al_p6 hlt m hL ?_)
      intro z
      intros
      rename_i hz
      refine n6 _ _ (al_p7 ?_ ?_)
      · intros
        rename_i ht
        refine n5 _ _ (n4 _ _ (al_p5 (by omega) ?_))
        intros
        dsimp only [Exit.then]
        go_roundw
        case rel => exact ⟨by trivial, i + 1, by go_num, hlt, fun j hj => by
          by_cases e : j = i
          · rw [e]; exact hz.1 ht
          · exact hall j (by omega)⟩
        case measure => simp [intOf]; omega
      · intros
        rename_i hf
        have hno : ¬ IdsAll Ls := fun q => by
          rw [hz.2 (q _ (mem_getDL (by rw [h.hlen]; exact hlt)))] at hf
          cases hf
        exact r5 _ _ (r4 _ _ (r2 _ _ (HR.out  _ _ _ _ _ _ _ _ _ _ _ _ _ _ _ hno)))
    · intros
      rename_i he
      subst he
      have hyes : IdsAll Ls := fun L hL => by
        obtain ⟨j, hj, e⟩ := mem_atL hL
        rw [← e]
        exact hall j (by rw [← h.hlen]; exact hj)
      exact e3 _ _ _ (e2 _ _ (HN.out  _ _ _ _ _ _ _ _ _ _ _ _ _ _ _ _ _ hyes))

set_option maxRecDepth 100000 in
set_option maxHeartbeats 12800000 in
theorem al_t15 {x1 x2 x3 x4 x5 x6 x7 x8 x10 x11 x12 x13 x14 x15 x16 x17 x18 x19 x20 x21 x22 x23 x24 x25 x26 x27 x28 x29 x30 x31 x32 x33 x34 x35 x36 x37 x38 x39 x40 x41 x42 x43 x44 x45 x46 x47 x48 x49 x50 x51 x52 x53 x54 x55 x56 x57 x58 x59 x60 x61 x62 x63 x64 x65 x66 x67 x68 x69 x70 x71 x72 x73 x74 x75 x76 x77 x78 x79 x80 x81 x82 x83 x84 x85 x86 x87 x88 x89 x90 x91 x92 x93 x94 x95 x96 x97 : Value} {Q : Exit → Act → World → Prop} {W : World} {a : Option Addr} {l c i : Nat} (hi : i ≤ l)
    (hN : ∀ (y40 y41 y42 y43 : Value), i < l → Q .normal ⟨#[.slice a l c, x1, x2, x3, x4, x5, x6, x7, x8, .int .i64 (i : Int), x10, x11, x12, x13, x14, x15, x16, x17, x18, x19, x20, x21, x22, x23, x24, x25, x26, x27, x28, x29, x30, x31, x32, x33, x34, x35, x36, x37, x38, x39, y40, y41, y42, y43, x44, x45, x46, x47, x48, x49, x50, x51, x52, x53, x54, x55, x56, x57, x58, x59, x60, x61, x62, x63, x64, x65, x66, x67, x68, x69, x70, x71, x72, x73, x74, x75, x76, x77, x78, x79, x80, x81, x82, x83, x84, x85, x86, x87, x88, x89, x90, x91, x92, x93, x94, x95, x96, x97], []⟩ W)
    (hE : ∀ (y40 y41 y42 y43 : Value), i = l → Q (.exit 4) ⟨#[.slice a l c, x1, x2, x3, x4, x5, x6, x7, x8, .int .i64 (i : Int), x10, x11, x12, x13, x14, x15, x16, x17, x18, x19, x20, x21, x22, x23, x24, x25, x26, x27, x28, x29, x30, x31, x32, x33, x34, x35, x36, x37, x38, x39, y40, y41, y42, y43, x44, x45, x46, x47, x48, x49, x50, x51, x52, x53, x54, x55, x56, x57, x58, x59, x60, x61, x62, x63, x64, x65, x66, x67, x68, x69, x70, x71, x72, x73, x74, x75, x76, x77, x78, x79, x80, x81, x82, x83, x84, x85, x86, x87, x88, x89, x90, x91, x92, x93, x94, x95, x96, x97], []⟩ W) :
    Code.wp Try.prog (((Try.f13.body.bind (pcLoop 4)).bind (pcAt 15)).getD .skip) Q ⟨#[.slice a l c, x1, x2, x3, x4, x5, x6, x7, x8, .int .i64 (i : Int), x10, x11, x12, x13, x14, x15, x16, x17, x18, x19, x20, x21, x22, x23, x24, x25, x26, x27, x28, x29, x30, x31, x32, x33, x34, x35, x36, x37, x38, x39, x40, x41, x42, x43, x44, x45, x46, x47, x48, x49, x50, x51, x52, x53, x54, x55, x56, x57, x58, x59, x60, x61, x62, x63, x64, x65, x66, x67, x68, x69, x70, x71, x72, x73, x74, x75, x76, x77, x78, x79, x80, x81, x82, x83, x84, x85, x86, x87, x88, x89, x90, x91, x92, x93, x94, x95, x96, x97], []⟩ W := by
  conv => arg 2; whnf
  have HN : Hid (∀ (y40 y41 y42 y43 : Value), i < l → Q .normal ⟨#[.slice a l c, x1, x2, x3, x4, x5, x6, x7, x8, .int .i64 (i : Int), x10, x11, x12, x13, x14, x15, x16, x17, x18, x19, x20, x21, x22, x23, x24, x25, x26, x27, x28, x29, x30, x31, x32, x33, x34, x35, x36, x37, x38, x39, y40, y41, y42, y43, x44, x45, x46, x47, x48, x49, x50, x51, x52, x53, x54, x55, x56, x57, x58, x59, x60, x61, x62, x63, x64, x65, x66, x67, x68, x69, x70, x71, x72, x73, x74, x75, x76, x77, x78, x79, x80, x81, x82, x83, x84, x85, x86, x87, x88, x89, x90, x91, x92, x93, x94, x95, x96, x97], []⟩ W) := hN
  have HE : Hid (∀ (y40 y41 y42 y43 : Value), i = l → Q (.exit 4) ⟨#[.slice a l c, x1, x2, x3, x4, x5, x6, x7, x8, .int .i64 (i : Int), x10, x11, x12, x13, x14, x15, x16, x17, x18, x19, x20, x21, x22, x23, x24, x25, x26, x27, x28, x29, x30, x31, x32, x33, x34, x35, x36, x37, x38, x39, y40, y41, y42, y43, x44, x45, x46, x47, x48, x49, x50, x51, x52, x53, x54, x55, x56, x57, x58, x59, x60, x61, x62, x63, x64, x65, x66, x67, x68, x69, x70, x71, x72, x73, x74, x75, x76, x77, x78, x79, x80, x81, x82, x83, x84, x85, x86, x87, x88, x89, x90, x91, x92, x93, x94, x95, x96, x97], []⟩ W) := hE
  clear hN hE
  by_cases hlt : i < l
  · have hlti : (i : Int) < (l : Int) := by omega
    clear HE
    go_wp2_with fail
    exact HN.out  _ _ _ _ hlt
  · have hlti : decide (i < l) = false := decide_eq_false hlt
    have HE2 : Hid (i = l) := by show _ = _; omega
    clear HN hi
    go_wp2_with fail
    exact HE.out  _ _ _ _ HE2.out

set_option maxRecDepth 100000 in
set_option maxHeartbeats 12800000 in
theorem al_p16 {x0 x1 x2 x3 x4 x5 x6 x7 x8 x10 x11 x12 x13 x14 x15 x16 x17 x18 x19 x20 x21 x22 x23 x24 x25 x26 x27 x28 x29 x30 x31 x32 x33 x34 x35 x36 x37 x38 x39 x40 x41 x42 x43 x44 x45 x46 x47 x48 x49 x50 x51 x52 x53 x54 x55 x56 x57 x58 x59 x60 x61 x62 x63 x64 x65 x66 x67 x68 x69 x70 x71 x72 x73 x74 x75 x76 x77 x78 x79 x80 x81 x82 x83 x84 x85 x86 x87 x88 x89 x90 x91 x92 x93 x94 x95 x96 x97 : Value} {Q : Exit → Act → World → Prop} {W : World} {i : Nat} (h : i < 9223372036854775807)
    (hN : ∀ (y44 y45 : Value), Q .normal ⟨#[x0, x1, x2, x3, x4, x5, x6, x7, x8, .int .i64 ((i + 1 : Nat) : Int), x10, x11, x12, x13, x14, x15, x16, x17, x18, x19, x20, x21, x22, x23, x24, x25, x26, x27, x28, x29, x30, x31, x32, x33, x34, x35, x36, x37, x38, x39, x40, x41, x42, x43, y44, y45, x46, x47, x48, x49, x50, x51, x52, x53, x54, x55, x56, x57, x58, x59, x60, x61, x62, x63, x64, x65, x66, x67, x68, x69, x70, x71, x72, x73, x74, x75, x76, x77, x78, x79, x80, x81, x82, x83, x84, x85, x86, x87, x88, x89, x90, x91, x92, x93, x94, x95, x96, x97], []⟩ W) :
    Code.wp Try.prog (((Try.f13.body.bind (pcLoop 4)).bind (pcAt 16)).getD .skip) Q ⟨#[x0, x1, x2, x3, x4, x5, x6, x7, x8, .int .i64 (i : Int), x10, x11, x12, x13, x14, x15, x16, x17, x18, x19, x20, x21, x22, x23, x24, x25, x26, x27, x28, x29, x30, x31, x32, x33, x34, x35, x36, x37, x38, x39, x40, x41, x42, x43, x44, x45, x46, x47, x48, x49, x50, x51, x52, x53, x54, x55, x56, x57, x58, x59, x60, x61, x62, x63, x64, x65, x66, x67, x68, x69, x70, x71, x72, x73, x74, x75, x76, x77, x78, x79, x80, x81, x82, x83, x84, x85, x86, x87, x88, x89, x90, x91, x92, x93, x94, x95, x96, x97], []⟩ W := by
  conv => arg 2; whnf
  have HN : Hid (∀ (y44 y45 : Value), Q .normal ⟨#[x0, x1, x2, x3, x4, x5, x6, x7, x8, .int .i64 ((i + 1 : Nat) : Int), x10, x11, x12, x13, x14, x15, x16, x17, x18, x19, x20, x21, x22, x23, x24, x25, x26, x27, x28, x29, x30, x31, x32, x33, x34, x35, x36, x37, x38, x39, x40, x41, x42, x43, y44, y45, x46, x47, x48, x49, x50, x51, x52, x53, x54, x55, x56, x57, x58, x59, x60, x61, x62, x63, x64, x65, x66, x67, x68, x69, x70, x71, x72, x73, x74, x75, x76, x77, x78, x79, x80, x81, x82, x83, x84, x85, x86, x87, x88, x89, x90, x91, x92, x93, x94, x95, x96, x97], []⟩ W) := hN
  clear hN
  have e : ((i + 1 : Nat) : Int) = (i : Int) + 1 := by omega
  rw [e] at HN
  go_wp2_with fail
  exact HN.out  _ _ 

set_option maxRecDepth 100000 in
set_option maxHeartbeats 12800000 in
theorem al_p12 {x0 x1 x2 x3 x4 x5 x6 x8 x9 x10 x11 x12 x13 x14 x15 x16 x17 x18 x19 x20 x21 x22 x23 x24 x25 x26 x27 x28 x29 x30 x31 x32 x33 x34 x35 x36 x37 x38 x39 x40 x41 x42 x43 x44 x45 x46 x47 x48 x49 x50 x51 x52 x53 x54 x55 x56 x57 x58 x59 x60 x61 x62 x63 x64 x65 x66 x67 x68 x69 x70 x71 x72 x73 x74 x75 x76 x77 x78 x79 x80 x81 x82 x83 x84 x85 x86 x87 x88 x89 x90 x91 x92 x93 x94 x95 x96 x97 : Value} {Q : Exit → Act → World → Prop} {W : World} {i : Nat} (h : i < 9223372036854775807)
    (hN : ∀ (y38 y39 : Value), Q .normal ⟨#[x0, x1, x2, x3, x4, x5, x6, .int .i64 ((i + 1 : Nat) : Int), x8, x9, x10, x11, x12, x13, x14, x15, x16, x17, x18, x19, x20, x21, x22, x23, x24, x25, x26, x27, x28, x29, x30, x31, x32, x33, x34, x35, x36, x37, y38, y39, x40, x41, x42, x43, x44, x45, x46, x47, x48, x49, x50, x51, x52, x53, x54, x55, x56, x57, x58, x59, x60, x61, x62, x63, x64, x65, x66, x67, x68, x69, x70, x71, x72, x73, x74, x75, x76, x77, x78, x79, x80, x81, x82, x83, x84, x85, x86, x87, x88, x89, x90, x91, x92, x93, x94, x95, x96, x97], []⟩ W) :
    Code.wp Try.prog (((Try.f13.body.bind (pcLoop 2)).bind (pcAt 12)).getD .skip) Q ⟨#[x0, x1, x2, x3, x4, x5, x6, .int .i64 (i : Int), x8, x9, x10, x11, x12, x13, x14, x15, x16, x17, x18, x19, x20, x21, x22, x23, x24, x25, x26, x27, x28, x29, x30, x31, x32, x33, x34, x35, x36, x37, x38, x39, x40, x41, x42, x43, x44, x45, x46, x47, x48, x49, x50, x51, x52, x53, x54, x55, x56, x57, x58, x59, x60, x61, x62, x63, x64, x65, x66, x67, x68, x69, x70, x71, x72, x73, x74, x75, x76, x77, x78, x79, x80, x81, x82, x83, x84, x85, x86, x87, x88, x89, x90, x91, x92, x93, x94, x95, x96, x97], []⟩ W := by
  conv => arg 2; whnf
  have HN : Hid (∀ (y38 y39 : Value), Q .normal ⟨#[x0, x1, x2, x3, x4, x5, x6, .int .i64 ((i + 1 : Nat) : Int), x8, x9, x10, x11, x12, x13, x14, x15, x16, x17, x18, x19, x20, x21, x22, x23, x24, x25, x26, x27, x28, x29, x30, x31, x32, x33, x34, x35, x36, x37, y38, y39, x40, x41, x42, x43, x44, x45, x46, x47, x48, x49, x50, x51, x52, x53, x54, x55, x56, x57, x58, x59, x60, x61, x62, x63, x64, x65, x66, x67, x68, x69, x70, x71, x72, x73, x74, x75, x76, x77, x78, x79, x80, x81, x82, x83, x84, x85, x86, x87, x88, x89, x90, x91, x92, x93, x94, x95, x96, x97], []⟩ W) := hN
  clear hN
  have e : ((i + 1 : Nat) : Int) = (i : Int) + 1 := by omega
  rw [e] at HN
  go_wp2_with fail
  exact HN.out  _ _ 

set_option maxRecDepth 100000 in
set_option maxHeartbeats 12800000 in
theorem al_p21 {x0 x1 x2 x3 x4 x5 x6 x7 x8 x9 x11 x12 x13 x14 x15 x16 x17 x18 x19 x20 x21 x22 x23 x24 x25 x26 x27 x28 x29 x30 x31 x32 x33 x34 x35 x36 x37 x38 x39 x40 x41 x42 x43 x44 x45 x46 x47 x48 x49 x50 x51 x52 x53 x54 x55 x56 x57 x58 x59 x60 x61 x62 x63 x64 x65 x66 x67 x68 x69 x70 x71 x72 x73 x74 x75 x76 x77 x78 x79 x80 x81 x82 x83 x84 x85 x86 x87 x88 x89 x90 x91 x92 x93 x94 x95 x96 x97 : Value} {Q : Exit → Act → World → Prop} {W : World} {i : Nat} (h : i < 9223372036854775807)
    (hN : ∀ (y80 y81 : Value), Q .normal ⟨#[x0, x1, x2, x3, x4, x5, x6, x7, x8, x9, .int .i64 ((i + 1 : Nat) : Int), x11, x12, x13, x14, x15, x16, x17, x18, x19, x20, x21, x22, x23, x24, x25, x26, x27, x28, x29, x30, x31, x32, x33, x34, x35, x36, x37, x38, x39, x40, x41, x42, x43, x44, x45, x46, x47, x48, x49, x50, x51, x52, x53, x54, x55, x56, x57, x58, x59, x60, x61, x62, x63, x64, x65, x66, x67, x68, x69, x70, x71, x72, x73, x74, x75, x76, x77, x78, x79, y80, y81, x82, x83, x84, x85, x86, x87, x88, x89, x90, x91, x92, x93, x94, x95, x96, x97], []⟩ W) :
    Code.wp Try.prog (((Try.f13.body.bind (pcBlk 7)).bind (pcFrom 21)).getD .skip) Q ⟨#[x0, x1, x2, x3, x4, x5, x6, x7, x8, x9, .int .i64 (i : Int), x11, x12, x13, x14, x15, x16, x17, x18, x19, x20, x21, x22, x23, x24, x25, x26, x27, x28, x29, x30, x31, x32, x33, x34, x35, x36, x37, x38, x39, x40, x41, x42, x43, x44, x45, x46, x47, x48, x49, x50, x51, x52, x53, x54, x55, x56, x57, x58, x59, x60, x61, x62, x63, x64, x65, x66, x67, x68, x69, x70, x71, x72, x73, x74, x75, x76, x77, x78, x79, x80, x81, x82, x83, x84, x85, x86, x87, x88, x89, x90, x91, x92, x93, x94, x95, x96, x97], []⟩ W := by
  conv => arg 2; whnf
  have HN : Hid (∀ (y80 y81 : Value), Q .normal ⟨#[x0, x1, x2, x3, x4, x5, x6, x7, x8, x9, .int .i64 ((i + 1 : Nat) : Int), x11, x12, x13, x14, x15, x16, x17, x18, x19, x20, x21, x22, x23, x24, x25, x26, x27, x28, x29, x30, x31, x32, x33, x34, x35, x36, x37, x38, x39, x40, x41, x42, x43, x44, x45, x46, x47, x48, x49, x50, x51, x52, x53, x54, x55, x56, x57, x58, x59, x60, x61, x62, x63, x64, x65, x66, x67, x68, x69, x70, x71, x72, x73, x74, x75, x76, x77, x78, x79, y80, y81, x82, x83, x84, x85, x86, x87, x88, x89, x90, x91, x92, x93, x94, x95, x96, x97], []⟩ W) := hN
  clear hN
  have e : ((i + 1 : Nat) : Int) = (i : Int) + 1 := by omega
  rw [e] at HN
  go_wp2_with fail
  exact HN.out  _ _ 

end Go.Proofs.Ytaiikhbfnfcalaa

namespace Go.Proofs.Ytaiikhbfnfcalaa
open Go.RowKit

set_option maxRecDepth 100000 in
set_option maxHeartbeats 12800000 in
theorem al_t11 {x1 x2 x3 x4 x5 x6 x8 x9 x10 x11 x12 x13 x14 x15 x16 x17 x18 x19 x20 x21 x22 x23 x24 x25 x26 x27 x28 x29 x30 x31 x32 x33 x34 x35 x36 x37 x38 x39 x40 x41 x42 x43 x44 x45 x46 x47 x48 x49 x50 x51 x52 x53 x54 x55 x56 x57 x58 x59 x60 x61 x62 x63 x64 x65 x66 x67 x68 x69 x70 x71 x72 x73 x74 x75 x76 x77 x78 x79 x80 x81 x82 x83 x84 x85 x86 x87 x88 x89 x90 x91 x92 x93 x94 x95 x96 x97 : Value} {Q : Exit → Act → World → Prop} {W : World} {b off l c i n k : Nat} {p : Option Addr} (m0 : W.cell? ⟨b, off, none⟩ = some (.slice p n k)) (hl : 0 < l) (hi : i ≤ n)
    (hN : ∀ (y32 y33 y34 y35 y36 y37 : Value), i < n → Q .normal ⟨#[.slice (some ⟨b, off, none⟩) l c, x1, x2, x3, x4, x5, x6, .int .i64 (i : Int), x8, x9, x10, x11, x12, x13, x14, x15, x16, x17, x18, x19, x20, x21, x22, x23, x24, x25, x26, x27, x28, x29, x30, x31, y32, y33, y34, y35, y36, y37, x38, x39, x40, x41, x42, x43, x44, x45, x46, x47, x48, x49, x50, x51, x52, x53, x54, x55, x56, x57, x58, x59, x60, x61, x62, x63, x64, x65, x66, x67, x68, x69, x70, x71, x72, x73, x74, x75, x76, x77, x78, x79, x80, x81, x82, x83, x84, x85, x86, x87, x88, x89, x90, x91, x92, x93, x94, x95, x96, x97], []⟩ W)
    (hE : ∀ (y32 y33 y34 y35 y36 y37 : Value), i = n → Q (.exit 2) ⟨#[.slice (some ⟨b, off, none⟩) l c, x1, x2, x3, x4, x5, x6, .int .i64 (i : Int), x8, x9, x10, x11, x12, x13, x14, x15, x16, x17, x18, x19, x20, x21, x22, x23, x24, x25, x26, x27, x28, x29, x30, x31, y32, y33, y34, y35, y36, y37, x38, x39, x40, x41, x42, x43, x44, x45, x46, x47, x48, x49, x50, x51, x52, x53, x54, x55, x56, x57, x58, x59, x60, x61, x62, x63, x64, x65, x66, x67, x68, x69, x70, x71, x72, x73, x74, x75, x76, x77, x78, x79, x80, x81, x82, x83, x84, x85, x86, x87, x88, x89, x90, x91, x92, x93, x94, x95, x96, x97], []⟩ W) :
    Code.wp Try.prog (((Try.f13.body.bind (pcLoop 2)).bind (pcAt 11)).getD .skip) Q ⟨#[.slice (some ⟨b, off, none⟩) l c, x1, x2, x3, x4, x5, x6, .int .i64 (i : Int), x8, x9, x10, x11, x12, x13, x14, x15, x16, x17, x18, x19, x20, x21, x22, x23, x24, x25, x26, x27, x28, x29, x30, x31, x32, x33, x34, x35, x36, x37, x38, x39, x40, x41, x42, x43, x44, x45, x46, x47, x48, x49, x50, x51, x52, x53, x54, x55, x56, x57, x58, x59, x60, x61, x62, x63, x64, x65, x66, x67, x68, x69, x70, x71, x72, x73, x74, x75, x76, x77, x78, x79, x80, x81, x82, x83, x84, x85, x86, x87, x88, x89, x90, x91, x92, x93, x94, x95, x96, x97], []⟩ W := by
  conv => arg 2; whnf
  have HN : Hid (∀ (y32 y33 y34 y35 y36 y37 : Value), i < n → Q .normal ⟨#[.slice (some ⟨b, off, none⟩) l c, x1, x2, x3, x4, x5, x6, .int .i64 (i : Int), x8, x9, x10, x11, x12, x13, x14, x15, x16, x17, x18, x19, x20, x21, x22, x23, x24, x25, x26, x27, x28, x29, x30, x31, y32, y33, y34, y35, y36, y37, x38, x39, x40, x41, x42, x43, x44, x45, x46, x47, x48, x49, x50, x51, x52, x53, x54, x55, x56, x57, x58, x59, x60, x61, x62, x63, x64, x65, x66, x67, x68, x69, x70, x71, x72, x73, x74, x75, x76, x77, x78, x79, x80, x81, x82, x83, x84, x85, x86, x87, x88, x89, x90, x91, x92, x93, x94, x95, x96, x97], []⟩ W) := hN
  have HE : Hid (∀ (y32 y33 y34 y35 y36 y37 : Value), i = n → Q (.exit 2) ⟨#[.slice (some ⟨b, off, none⟩) l c, x1, x2, x3, x4, x5, x6, .int .i64 (i : Int), x8, x9, x10, x11, x12, x13, x14, x15, x16, x17, x18, x19, x20, x21, x22, x23, x24, x25, x26, x27, x28, x29, x30, x31, y32, y33, y34, y35, y36, y37, x38, x39, x40, x41, x42, x43, x44, x45, x46, x47, x48, x49, x50, x51, x52, x53, x54, x55, x56, x57, x58, x59, x60, x61, x62, x63, x64, x65, x66, x67, x68, x69, x70, x71, x72, x73, x74, x75, x76, x77, x78, x79, x80, x81, x82, x83, x84, x85, x86, x87, x88, x89, x90, x91, x92, x93, x94, x95, x96, x97], []⟩ W) := hE
  clear hN hE
  have hl1 : (0 : Int) < (l : Int) := by omega
  by_cases hlt : i < n
  · have hlti : (i : Int) < (n : Int) := by omega
    clear HE
    go_wp2_with fail
    exact HN.out  _ _ _ _ _ _ hlt
  · have hlti : decide (i < n) = false := decide_eq_false hlt
    have HE2 : Hid (i = n) := by show _ = _; omega
    clear HN hi
    go_wp2_with fail
    exact HE.out  _ _ _ _ _ _ HE2.out

set_option maxRecDepth 100000 in
set_option maxHeartbeats 12800000 in
theorem al_p9 {x0 x1 x2 x3 x4 x5 x6 x7 x8 x9 x10 x11 x12 x13 x14 x15 x16 x17 x18 x19 x20 x21 x22 x23 x24 x25 x26 x27 x28 x29 x30 x31 x32 x33 x34 x35 x36 x37 x38 x39 x40 x41 x42 x43 x44 x45 x46 x47 x48 x49 x50 x51 x52 x53 x54 x55 x56 x57 x58 x59 x60 x61 x62 x63 x64 x65 x66 x67 x68 x69 x70 x71 x72 x73 x74 x75 x76 x77 x78 x79 x80 x81 x82 x83 x84 x85 x86 x87 x88 x89 x90 x91 x92 x93 x94 x95 x96 x97 : Value} {Q : Exit → Act → World → Prop} {W : World} 
    (hN : Q .normal ⟨#[x0, x1, x2, x3, x4, x5, .slice none 0 0, x7, x8, x9, x10, x11, x12, x13, x14, x15, x16, x17, x18, x19, x20, x21, x22, x23, x24, x25, x26, x27, x28, x29, x30, x31, x32, x33, x34, x35, x36, x37, x38, x39, x40, x41, x42, x43, x44, x45, x46, x47, x48, x49, x50, x51, x52, x53, x54, x55, x56, x57, x58, x59, x60, x61, x62, x63, x64, x65, x66, x67, x68, x69, x70, x71, x72, x73, x74, x75, x76, x77, x78, x79, x80, x81, x82, x83, x84, x85, x86, x87, x88, x89, x90, x91, x92, x93, x94, x95, x96, x97], []⟩ W) :
    Code.wp Try.prog ((Try.f13.body.bind (pcAt 9)).getD .skip) Q ⟨#[x0, x1, x2, x3, x4, x5, x6, x7, x8, x9, x10, x11, x12, x13, x14, x15, x16, x17, x18, x19, x20, x21, x22, x23, x24, x25, x26, x27, x28, x29, x30, x31, x32, x33, x34, x35, x36, x37, x38, x39, x40, x41, x42, x43, x44, x45, x46, x47, x48, x49, x50, x51, x52, x53, x54, x55, x56, x57, x58, x59, x60, x61, x62, x63, x64, x65, x66, x67, x68, x69, x70, x71, x72, x73, x74, x75, x76, x77, x78, x79, x80, x81, x82, x83, x84, x85, x86, x87, x88, x89, x90, x91, x92, x93, x94, x95, x96, x97], []⟩ W := by
  conv => arg 2; whnf
  have HN : Hid (Q .normal ⟨#[x0, x1, x2, x3, x4, x5, .slice none 0 0, x7, x8, x9, x10, x11, x12, x13, x14, x15, x16, x17, x18, x19, x20, x21, x22, x23, x24, x25, x26, x27, x28, x29, x30, x31, x32, x33, x34, x35, x36, x37, x38, x39, x40, x41, x42, x43, x44, x45, x46, x47, x48, x49, x50, x51, x52, x53, x54, x55, x56, x57, x58, x59, x60, x61, x62, x63, x64, x65, x66, x67, x68, x69, x70, x71, x72, x73, x74, x75, x76, x77, x78, x79, x80, x81, x82, x83, x84, x85, x86, x87, x88, x89, x90, x91, x92, x93, x94, x95, x96, x97], []⟩ W) := hN
  clear hN
  go_wp2_with fail
  exact HN.out   

set_option maxRecDepth 100000 in
set_option maxHeartbeats 12800000 in
theorem al_p13 {x0 x1 x2 x3 x4 x5 x6 x7 x8 x9 x10 x11 x12 x13 x14 x15 x16 x17 x18 x19 x20 x21 x22 x23 x24 x25 x26 x27 x28 x29 x30 x31 x32 x33 x34 x35 x36 x37 x38 x39 x40 x41 x42 x43 x44 x45 x46 x47 x48 x49 x50 x51 x52 x53 x54 x55 x56 x57 x58 x59 x60 x61 x62 x63 x64 x65 x66 x67 x68 x69 x70 x71 x72 x73 x74 x75 x76 x77 x78 x79 x80 x81 x82 x83 x84 x85 x86 x87 x88 x89 x90 x91 x92 x93 x94 x95 x96 x97 : Value} {Q : Exit → Act → World → Prop} {W : World} 
    (hN : Q .normal ⟨#[x0, x1, x2, x3, x4, x5, x6, x7, .bool true, x9, x10, x11, x12, x13, x14, x15, x16, x17, x18, x19, x20, x21, x22, x23, x24, x25, x26, x27, x28, x29, x30, x31, x32, x33, x34, x35, x36, x37, x38, x39, x40, x41, x42, x43, x44, x45, x46, x47, x48, x49, x50, x51, x52, x53, x54, x55, x56, x57, x58, x59, x60, x61, x62, x63, x64, x65, x66, x67, x68, x69, x70, x71, x72, x73, x74, x75, x76, x77, x78, x79, x80, x81, x82, x83, x84, x85, x86, x87, x88, x89, x90, x91, x92, x93, x94, x95, x96, x97], []⟩ W) :
    Code.wp Try.prog (((Try.f13.body.bind (pcBlk 3)).bind (pcAt 13)).getD .skip) Q ⟨#[x0, x1, x2, x3, x4, x5, x6, x7, x8, x9, x10, x11, x12, x13, x14, x15, x16, x17, x18, x19, x20, x21, x22, x23, x24, x25, x26, x27, x28, x29, x30, x31, x32, x33, x34, x35, x36, x37, x38, x39, x40, x41, x42, x43, x44, x45, x46, x47, x48, x49, x50, x51, x52, x53, x54, x55, x56, x57, x58, x59, x60, x61, x62, x63, x64, x65, x66, x67, x68, x69, x70, x71, x72, x73, x74, x75, x76, x77, x78, x79, x80, x81, x82, x83, x84, x85, x86, x87, x88, x89, x90, x91, x92, x93, x94, x95, x96, x97], []⟩ W := by
  conv => arg 2; whnf
  have HN : Hid (Q .normal ⟨#[x0, x1, x2, x3, x4, x5, x6, x7, .bool true, x9, x10, x11, x12, x13, x14, x15, x16, x17, x18, x19, x20, x21, x22, x23, x24, x25, x26, x27, x28, x29, x30, x31, x32, x33, x34, x35, x36, x37, x38, x39, x40, x41, x42, x43, x44, x45, x46, x47, x48, x49, x50, x51, x52, x53, x54, x55, x56, x57, x58, x59, x60, x61, x62, x63, x64, x65, x66, x67, x68, x69, x70, x71, x72, x73, x74, x75, x76, x77, x78, x79, x80, x81, x82, x83, x84, x85, x86, x87, x88, x89, x90, x91, x92, x93, x94, x95, x96, x97], []⟩ W) := hN
  clear hN
  go_wp2_with fail
  exact HN.out   

set_option maxRecDepth 100000 in
set_option maxHeartbeats 12800000 in
theorem al_p17 {x1 x2 x3 x4 x5 x6 x10 x11 x12 x13 x14 x15 x16 x17 x18 x19 x20 x21 x22 x23 x24 x25 x26 x27 x28 x29 x30 x31 x32 x33 x34 x35 x36 x37 x38 x39 x40 x41 x42 x43 x44 x45 x46 x47 x48 x49 x50 x51 x52 x53 x54 x55 x56 x57 x58 x59 x60 x61 x62 x63 x64 x65 x66 x67 x68 x69 x70 x71 x72 x73 x74 x75 x76 x77 x78 x79 x80 x81 x82 x83 x84 x85 x86 x87 x88 x89 x90 x91 x92 x93 x94 x95 x96 x97 : Value} {Q : Exit → Act → World → Prop} {W : World} {b off l c i k b0 o0 n0 k0 nk kk : Nat} {pk : Option Addr} {x : Int} {z : Bool} {ys : List Int} (m0 : W.cell? ⟨b, off, none⟩ = some (.slice (some ⟨b0, o0, none⟩) n0 k0)) (mi : W.cell? ⟨b0, o0 + i, none⟩ = some (.int .i64 x)) (hi : i < n0) (hl : 0 < l) (mk : W.cell? ⟨b, off + k, none⟩ = some (.slice pk nk kk)) (hk : k < l) (hL : Lsts W pk nk kk ys)
    (hN : ∀ (wx : World) (y46 y47 y48 y49 y50 y51 y52 y53 y54 y55 y56 y57 y58 y59 y60 : Value), Below W.heap.size W wx → Q .normal ⟨#[.slice (some ⟨b, off, none⟩) l c, x1, x2, x3, x4, x5, x6, .int .i64 (i : Int), .bool (z && decide (x ∈ ys)), .int .i64 (k : Int), x10, x11, x12, x13, x14, x15, x16, x17, x18, x19, x20, x21, x22, x23, x24, x25, x26, x27, x28, x29, x30, x31, x32, x33, x34, x35, x36, x37, x38, x39, x40, x41, x42, x43, x44, x45, y46, y47, y48, y49, y50, y51, y52, y53, y54, y55, y56, y57, y58, y59, y60, x61, x62, x63, x64, x65, x66, x67, x68, x69, x70, x71, x72, x73, x74, x75, x76, x77, x78, x79, x80, x81, x82, x83, x84, x85, x86, x87, x88, x89, x90, x91, x92, x93, x94, x95, x96, x97], []⟩ wx) :
    Code.wp Try.prog (((Try.f13.body.bind (pcBlk 5)).bind (pcFrom 17)).getD .skip) Q ⟨#[.slice (some ⟨b, off, none⟩) l c, x1, x2, x3, x4, x5, x6, .int .i64 (i : Int), .bool z, .int .i64 (k : Int), x10, x11, x12, x13, x14, x15, x16, x17, x18, x19, x20, x21, x22, x23, x24, x25, x26, x27, x28, x29, x30, x31, x32, x33, x34, x35, x36, x37, x38, x39, x40, x41, x42, x43, x44, x45, x46, x47, x48, x49, x50, x51, x52, x53, x54, x55, x56, x57, x58, x59, x60, x61, x62, x63, x64, x65, x66, x67, x68, x69, x70, x71, x72, x73, x74, x75, x76, x77, x78, x79, x80, x81, x82, x83, x84, x85, x86, x87, x88, x89, x90, x91, x92, x93, x94, x95, x96, x97], []⟩ W := by
  conv => arg 2; whnf
  have HN : Hid (∀ (wx : World) (y46 y47 y48 y49 y50 y51 y52 y53 y54 y55 y56 y57 y58 y59 y60 : Value), Below W.heap.size W wx → Q .normal ⟨#[.slice (some ⟨b, off, none⟩) l c, x1, x2, x3, x4, x5, x6, .int .i64 (i : Int), .bool (z && decide (x ∈ ys)), .int .i64 (k : Int), x10, x11, x12, x13, x14, x15, x16, x17, x18, x19, x20, x21, x22, x23, x24, x25, x26, x27, x28, x29, x30, x31, x32, x33, x34, x35, x36, x37, x38, x39, x40, x41, x42, x43, x44, x45, y46, y47, y48, y49, y50, y51, y52, y53, y54, y55, y56, y57, y58, y59, y60, x61, x62, x63, x64, x65, x66, x67, x68, x69, x70, x71, x72, x73, x74, x75, x76, x77, x78, x79, x80, x81, x82, x83, x84, x85, x86, x87, x88, x89, x90, x91, x92, x93, x94, x95, x96, x97], []⟩ wx) := hN
  clear hN
  have hl1 : (0 : Int) < (l : Int) := by omega
  have hk1 : (k : Int) < (l : Int) := by omega
  have hk0 : (0 : Int) ≤ (k : Int) := by omega
  have hi1 : (i : Int) < (n0 : Int) := by omega
  have hi0 : (0 : Int) ≤ (i : Int) := by omega
  have HB : Hid (∀ n, Below W.heap.size W (W.drewN n)) := fun n => below_drewN (Below.refl _ W) n
  refine wp_pcOnly ?_
  cases z with
  | false =>
    rw [Bool.false_and] at HN
    clear hL
    go_wp2_with fail
    go_quiet (fail)
    go_wp2_with fail
    exact HN.out _ _ _ _ _ _ _ _ _ _ _ _ _ _ _ _ (HB.out _)
  | true =>
    rw [Bool.true_and] at HN
    have HC : ∀ n, Hid (Calls Try.prog 29 #[.slice pk nk kk, .int .i64 x] (W.drewN n) fun e w' => e = .returned (.int .i64 (placeI ys x)) ∧ w' = W.drewN n) := fun n => r15place_any pk nk kk ys x _ (hL.below (HB.out n))
    have hpos := placeI_pos (l := ys) (x := x)
    obtain ⟨P, hP⟩ : ∃ P, P = placeI ys x := ⟨_, rfl⟩
    rw [← hP] at HC hpos
    by_cases hx : x ∈ ys
    · have d1 : decide (0 ≤ P) = true := decide_eq_true (hpos.2 hx)
      rw [decide_eq_true hx] at HN
      clear hL hpos hP hx
      go_wp2_with fail
      go_quiet ((go_at_call 29; exact Calls.quiet_of_same (HC _).out))
      clear HC
      go_wp2_with fail
      exact HN.out _ _ _ _ _ _ _ _ _ _ _ _ _ _ _ _ (HB.out _)
    · have d1 : decide (0 ≤ P) = false := decide_eq_false (fun q => hx (hpos.1 q))
      rw [decide_eq_false hx] at HN
      clear hL hpos hP hx
      go_wp2_with fail
      go_quiet ((go_at_call 29; exact Calls.quiet_of_same (HC _).out))
      clear HC
      go_wp2_with fail
      exact HN.out _ _ _ _ _ _ _ _ _ _ _ _ _ _ _ _ (HB.out _)

set_option maxRecDepth 100000 in
set_option maxHeartbeats 12800000 in
theorem al_p18 {x0 x1 x2 x3 x4 x5 x6 x7 x9 x10 x11 x12 x13 x14 x15 x16 x17 x18 x19 x20 x21 x22 x23 x24 x25 x26 x27 x28 x29 x30 x31 x32 x33 x34 x35 x36 x37 x38 x39 x40 x41 x42 x43 x44 x45 x46 x47 x48 x49 x50 x51 x52 x53 x54 x55 x56 x57 x58 x59 x60 x61 x62 x63 x64 x65 x66 x67 x68 x69 x70 x71 x72 x73 x74 x75 x76 x77 x78 x79 x80 x81 x82 x83 x84 x85 x86 x87 x88 x89 x90 x91 x92 x93 x94 x95 x96 x97 : Value} {Q : Exit → Act → World → Prop} {W : World} {z : Bool} 
    (hN : ∀ (y61 y62 : Value), z = true → Q .normal ⟨#[x0, x1, x2, x3, x4, x5, x6, x7, .bool z, x9, x10, x11, x12, x13, x14, x15, x16, x17, x18, x19, x20, x21, x22, x23, x24, x25, x26, x27, x28, x29, x30, x31, x32, x33, x34, x35, x36, x37, x38, x39, x40, x41, x42, x43, x44, x45, x46, x47, x48, x49, x50, x51, x52, x53, x54, x55, x56, x57, x58, x59, x60, y61, y62, x63, x64, x65, x66, x67, x68, x69, x70, x71, x72, x73, x74, x75, x76, x77, x78, x79, x80, x81, x82, x83, x84, x85, x86, x87, x88, x89, x90, x91, x92, x93, x94, x95, x96, x97], []⟩ W)
    (hE : ∀ (y61 y62 : Value), z = false → Q (.exit 3) ⟨#[x0, x1, x2, x3, x4, x5, x6, x7, .bool z, x9, x10, x11, x12, x13, x14, x15, x16, x17, x18, x19, x20, x21, x22, x23, x24, x25, x26, x27, x28, x29, x30, x31, x32, x33, x34, x35, x36, x37, x38, x39, x40, x41, x42, x43, x44, x45, x46, x47, x48, x49, x50, x51, x52, x53, x54, x55, x56, x57, x58, x59, x60, y61, y62, x63, x64, x65, x66, x67, x68, x69, x70, x71, x72, x73, x74, x75, x76, x77, x78, x79, x80, x81, x82, x83, x84, x85, x86, x87, x88, x89, x90, x91, x92, x93, x94, x95, x96, x97], []⟩ W) :
    Code.wp Try.prog (((Try.f13.body.bind (pcBlk 3)).bind (pcAt 18)).getD .skip) Q ⟨#[x0, x1, x2, x3, x4, x5, x6, x7, .bool z, x9, x10, x11, x12, x13, x14, x15, x16, x17, x18, x19, x20, x21, x22, x23, x24, x25, x26, x27, x28, x29, x30, x31, x32, x33, x34, x35, x36, x37, x38, x39, x40, x41, x42, x43, x44, x45, x46, x47, x48, x49, x50, x51, x52, x53, x54, x55, x56, x57, x58, x59, x60, x61, x62, x63, x64, x65, x66, x67, x68, x69, x70, x71, x72, x73, x74, x75, x76, x77, x78, x79, x80, x81, x82, x83, x84, x85, x86, x87, x88, x89, x90, x91, x92, x93, x94, x95, x96, x97], []⟩ W := by
  conv => arg 2; whnf
  have HN : Hid (∀ (y61 y62 : Value), z = true → Q .normal ⟨#[x0, x1, x2, x3, x4, x5, x6, x7, .bool z, x9, x10, x11, x12, x13, x14, x15, x16, x17, x18, x19, x20, x21, x22, x23, x24, x25, x26, x27, x28, x29, x30, x31, x32, x33, x34, x35, x36, x37, x38, x39, x40, x41, x42, x43, x44, x45, x46, x47, x48, x49, x50, x51, x52, x53, x54, x55, x56, x57, x58, x59, x60, y61, y62, x63, x64, x65, x66, x67, x68, x69, x70, x71, x72, x73, x74, x75, x76, x77, x78, x79, x80, x81, x82, x83, x84, x85, x86, x87, x88, x89, x90, x91, x92, x93, x94, x95, x96, x97], []⟩ W) := hN
  have HE : Hid (∀ (y61 y62 : Value), z = false → Q (.exit 3) ⟨#[x0, x1, x2, x3, x4, x5, x6, x7, .bool z, x9, x10, x11, x12, x13, x14, x15, x16, x17, x18, x19, x20, x21, x22, x23, x24, x25, x26, x27, x28, x29, x30, x31, x32, x33, x34, x35, x36, x37, x38, x39, x40, x41, x42, x43, x44, x45, x46, x47, x48, x49, x50, x51, x52, x53, x54, x55, x56, x57, x58, x59, x60, y61, y62, x63, x64, x65, x66, x67, x68, x69, x70, x71, x72, x73, x74, x75, x76, x77, x78, x79, x80, x81, x82, x83, x84, x85, x86, x87, x88, x89, x90, x91, x92, x93, x94, x95, x96, x97], []⟩ W) := hE
  clear hN hE
  cases z with
  | true =>
    clear HE
    go_wp2_with fail
    exact HN.out  _ _ (by trivial)
  | false =>
    clear HN
    go_wp2_with fail
    exact HE.out  _ _ (by trivial)

set_option maxRecDepth 100000 in
set_option maxHeartbeats 12800000 in
theorem al_p19 {x0 x1 x2 x3 x4 x5 x6 x7 x8 x9 x10 x11 x12 x13 x14 x15 x16 x17 x18 x19 x20 x21 x22 x23 x24 x25 x26 x27 x28 x29 x30 x31 x32 x33 x34 x35 x36 x37 x38 x39 x40 x41 x42 x43 x44 x45 x46 x47 x48 x49 x50 x51 x52 x53 x54 x55 x56 x57 x58 x59 x60 x61 x62 x63 x64 x65 x66 x67 x68 x69 x70 x71 x72 x73 x74 x75 x76 x77 x78 x79 x80 x81 x82 x83 x84 x85 x86 x87 x88 x89 x90 x91 x92 x93 x94 x95 x96 x97 : Value} {Q : Exit → Act → World → Prop} {W : World} 
    (hN : Q .normal ⟨#[x0, x1, x2, x3, x4, x5, x6, x7, x8, x9, .int .i64 0, x11, x12, x13, x14, x15, x16, x17, x18, x19, x20, x21, x22, x23, x24, x25, x26, x27, x28, x29, x30, x31, x32, x33, x34, x35, x36, x37, x38, x39, x40, x41, x42, x43, x44, x45, x46, x47, x48, x49, x50, x51, x52, x53, x54, x55, x56, x57, x58, x59, x60, x61, x62, x63, x64, x65, x66, x67, x68, x69, x70, x71, x72, x73, x74, x75, x76, x77, x78, x79, x80, x81, x82, x83, x84, x85, x86, x87, x88, x89, x90, x91, x92, x93, x94, x95, x96, x97], []⟩ W) :
    Code.wp Try.prog (((Try.f13.body.bind (pcBlk 3)).bind (pcAt 19)).getD .skip) Q ⟨#[x0, x1, x2, x3, x4, x5, x6, x7, x8, x9, x10, x11, x12, x13, x14, x15, x16, x17, x18, x19, x20, x21, x22, x23, x24, x25, x26, x27, x28, x29, x30, x31, x32, x33, x34, x35, x36, x37, x38, x39, x40, x41, x42, x43, x44, x45, x46, x47, x48, x49, x50, x51, x52, x53, x54, x55, x56, x57, x58, x59, x60, x61, x62, x63, x64, x65, x66, x67, x68, x69, x70, x71, x72, x73, x74, x75, x76, x77, x78, x79, x80, x81, x82, x83, x84, x85, x86, x87, x88, x89, x90, x91, x92, x93, x94, x95, x96, x97], []⟩ W := by
  conv => arg 2; whnf
  have HN : Hid (Q .normal ⟨#[x0, x1, x2, x3, x4, x5, x6, x7, x8, x9, .int .i64 0, x11, x12, x13, x14, x15, x16, x17, x18, x19, x20, x21, x22, x23, x24, x25, x26, x27, x28, x29, x30, x31, x32, x33, x34, x35, x36, x37, x38, x39, x40, x41, x42, x43, x44, x45, x46, x47, x48, x49, x50, x51, x52, x53, x54, x55, x56, x57, x58, x59, x60, x61, x62, x63, x64, x65, x66, x67, x68, x69, x70, x71, x72, x73, x74, x75, x76, x77, x78, x79, x80, x81, x82, x83, x84, x85, x86, x87, x88, x89, x90, x91, x92, x93, x94, x95, x96, x97], []⟩ W) := hN
  clear hN
  go_wp2_with fail
  exact HN.out   

set_option maxRecDepth 100000 in
set_option maxHeartbeats 12800000 in
theorem al_p20 {x1 x2 x3 x4 x5 x8 x9 x11 x12 x13 x14 x15 x16 x17 x18 x19 x20 x21 x22 x23 x24 x25 x26 x27 x28 x29 x30 x31 x32 x33 x34 x35 x36 x37 x38 x39 x40 x41 x42 x43 x44 x45 x46 x47 x48 x49 x50 x51 x52 x53 x54 x55 x56 x57 x58 x59 x60 x61 x62 x63 x64 x65 x66 x67 x68 x69 x70 x71 x72 x73 x74 x75 x76 x77 x78 x79 x80 x81 x82 x83 x84 x85 x86 x87 x88 x89 x90 x91 x92 x93 x94 x95 x96 x97 : Value} {Q : Exit → Act → World → Prop} {W : World} {b off l c i j b0 o0 n0 k0 m cq : Nat} {q : Option Addr} {x : Int} {xs : List Int} (m0 : W.cell? ⟨b, off, none⟩ = some (.slice (some ⟨b0, o0, none⟩) n0 k0)) (mi : W.cell? ⟨b0, o0 + i, none⟩ = some (.int .i64 x)) (hi : i < n0) (hl : 0 < l) (hS : Lsts W q m cq xs)
    (hN : ∀ (wx : World) (y63 y64 y65 y66 y67 y68 y69 y70 y71 y72 y73 y74 y75 y76 y77 y78 y79 : Value), Below W.heap.size W wx → j < m → xs.getD j 0 < x → Q .normal ⟨#[.slice (some ⟨b, off, none⟩) l c, x1, x2, x3, x4, x5, .slice q m cq, .int .i64 (i : Int), x8, x9, .int .i64 (j : Int), x11, x12, x13, x14, x15, x16, x17, x18, x19, x20, x21, x22, x23, x24, x25, x26, x27, x28, x29, x30, x31, x32, x33, x34, x35, x36, x37, x38, x39, x40, x41, x42, x43, x44, x45, x46, x47, x48, x49, x50, x51, x52, x53, x54, x55, x56, x57, x58, x59, x60, x61, x62, y63, y64, y65, y66, y67, y68, y69, y70, y71, y72, y73, y74, y75, y76, y77, y78, y79, x80, x81, x82, x83, x84, x85, x86, x87, x88, x89, x90, x91, x92, x93, x94, x95, x96, x97], []⟩ wx)
    (hE : ∀ (wx : World) (y63 y64 y65 y66 y67 y68 y69 y70 y71 y72 y73 y74 y75 y76 y77 y78 y79 : Value), Below W.heap.size W wx → ¬ (j < m ∧ xs.getD j 0 < x) → Q (.exit 6) ⟨#[.slice (some ⟨b, off, none⟩) l c, x1, x2, x3, x4, x5, .slice q m cq, .int .i64 (i : Int), x8, x9, .int .i64 (j : Int), x11, x12, x13, x14, x15, x16, x17, x18, x19, x20, x21, x22, x23, x24, x25, x26, x27, x28, x29, x30, x31, x32, x33, x34, x35, x36, x37, x38, x39, x40, x41, x42, x43, x44, x45, x46, x47, x48, x49, x50, x51, x52, x53, x54, x55, x56, x57, x58, x59, x60, x61, x62, y63, y64, y65, y66, y67, y68, y69, y70, y71, y72, y73, y74, y75, y76, y77, y78, y79, x80, x81, x82, x83, x84, x85, x86, x87, x88, x89, x90, x91, x92, x93, x94, x95, x96, x97], []⟩ wx) :
    Code.wp Try.prog (((Try.f13.body.bind (pcLoop 6)).bind (pcAt 20)).getD .skip) Q ⟨#[.slice (some ⟨b, off, none⟩) l c, x1, x2, x3, x4, x5, .slice q m cq, .int .i64 (i : Int), x8, x9, .int .i64 (j : Int), x11, x12, x13, x14, x15, x16, x17, x18, x19, x20, x21, x22, x23, x24, x25, x26, x27, x28, x29, x30, x31, x32, x33, x34, x35, x36, x37, x38, x39, x40, x41, x42, x43, x44, x45, x46, x47, x48, x49, x50, x51, x52, x53, x54, x55, x56, x57, x58, x59, x60, x61, x62, x63, x64, x65, x66, x67, x68, x69, x70, x71, x72, x73, x74, x75, x76, x77, x78, x79, x80, x81, x82, x83, x84, x85, x86, x87, x88, x89, x90, x91, x92, x93, x94, x95, x96, x97], []⟩ W := by
  conv => arg 2; whnf
  have HN : Hid (∀ (wx : World) (y63 y64 y65 y66 y67 y68 y69 y70 y71 y72 y73 y74 y75 y76 y77 y78 y79 : Value), Below W.heap.size W wx → j < m → xs.getD j 0 < x → Q .normal ⟨#[.slice (some ⟨b, off, none⟩) l c, x1, x2, x3, x4, x5, .slice q m cq, .int .i64 (i : Int), x8, x9, .int .i64 (j : Int), x11, x12, x13, x14, x15, x16, x17, x18, x19, x20, x21, x22, x23, x24, x25, x26, x27, x28, x29, x30, x31, x32, x33, x34, x35, x36, x37, x38, x39, x40, x41, x42, x43, x44, x45, x46, x47, x48, x49, x50, x51, x52, x53, x54, x55, x56, x57, x58, x59, x60, x61, x62, y63, y64, y65, y66, y67, y68, y69, y70, y71, y72, y73, y74, y75, y76, y77, y78, y79, x80, x81, x82, x83, x84, x85, x86, x87, x88, x89, x90, x91, x92, x93, x94, x95, x96, x97], []⟩ wx) := hN
  have HE : Hid (∀ (wx : World) (y63 y64 y65 y66 y67 y68 y69 y70 y71 y72 y73 y74 y75 y76 y77 y78 y79 : Value), Below W.heap.size W wx → ¬ (j < m ∧ xs.getD j 0 < x) → Q (.exit 6) ⟨#[.slice (some ⟨b, off, none⟩) l c, x1, x2, x3, x4, x5, .slice q m cq, .int .i64 (i : Int), x8, x9, .int .i64 (j : Int), x11, x12, x13, x14, x15, x16, x17, x18, x19, x20, x21, x22, x23, x24, x25, x26, x27, x28, x29, x30, x31, x32, x33, x34, x35, x36, x37, x38, x39, x40, x41, x42, x43, x44, x45, x46, x47, x48, x49, x50, x51, x52, x53, x54, x55, x56, x57, x58, x59, x60, x61, x62, y63, y64, y65, y66, y67, y68, y69, y70, y71, y72, y73, y74, y75, y76, y77, y78, y79, x80, x81, x82, x83, x84, x85, x86, x87, x88, x89, x90, x91, x92, x93, x94, x95, x96, x97], []⟩ wx) := hE
  clear hN hE
  have hl1 : (0 : Int) < (l : Int) := by omega
  have hi1 : (i : Int) < (n0 : Int) := by omega
  have hi0 : (0 : Int) ≤ (i : Int) := by omega
  have hj0 : (0 : Int) ≤ (j : Int) := by omega
  have HB : Hid (∀ n, Below W.heap.size W (W.drewN n)) := fun n => below_drewN (Below.refl _ W) n
  refine pcSeq (fun Q1 n1 r1 e1 => ?_)
  refine wp_pcOnly ?_
  by_cases hj : j < m
  · have hj1 : (j : Int) < (m : Int) := by omega
    obtain ⟨bq, oq, rfl, hcq⟩ := hS.at hj
    obtain ⟨y, hy⟩ : ∃ y, y = xs.getD j 0 := ⟨_, rfl⟩
    rw [← hy] at hcq
    by_cases hlt : y < x
    · have d1 : decide (y < x) = true := decide_eq_true hlt
      have HX : Hid (j < m ∧ xs.getD j 0 < x) := ⟨hj, by rw [← hy]; exact hlt⟩
      clear HE hS hy hlt hj
      go_wp2_with fail
      go_quiet (fail)
      refine n1 _ _ ?_
      go_wp2_with fail
      exact HN.out _ _ _ _ _ _ _ _ _ _ _ _ _ _ _ _ _ _ (HB.out _) HX.out.1 HX.out.2
    · have d1 : decide (y < x) = false := decide_eq_false hlt
      have HX : Hid (¬ (j < m ∧ xs.getD j 0 < x)) := fun e => hlt (by rw [hy]; exact e.2)
      clear HN hS hy hlt hj
      go_wp2_with fail
      go_quiet (fail)
      refine n1 _ _ ?_
      go_wp2_with fail
      exact HE.out _ _ _ _ _ _ _ _ _ _ _ _ _ _ _ _ _ _ (HB.out _) HX.out
  · have hj1 : decide (j < m) = false := decide_eq_false hj
    have hj2 : decide ((j : Int) < (m : Int)) = false := decide_eq_false (by omega)
    have HX : Hid (¬ (j < m ∧ xs.getD j 0 < x)) := fun e => hj e.1
    clear HN hS hj
    go_wp2_with fail
    go_quiet (fail)
    refine n1 _ _ ?_
    go_wp2_with fail
    exact HE.out _ _ _ _ _ _ _ _ _ _ _ _ _ _ _ _ _ _ (HB.out _) HX.out

set_option maxRecDepth 100000 in
set_option maxHeartbeats 12800000 in
theorem al_p23 {x0 x1 x2 x3 x4 x5 x7 x8 x9 x10 x11 x12 x13 x14 x15 x16 x17 x18 x19 x20 x21 x22 x23 x24 x25 x26 x27 x28 x29 x30 x31 x32 x33 x34 x35 x36 x37 x38 x39 x40 x41 x42 x43 x44 x45 x46 x47 x48 x49 x50 x51 x52 x53 x54 x55 x56 x57 x58 x59 x60 x61 x62 x63 x64 x65 x66 x67 x68 x69 x70 x71 x72 x73 x74 x75 x76 x77 x78 x79 x80 x81 x82 x83 x84 x85 x86 x87 x88 x89 x90 x91 x92 x93 x94 x95 x96 x97 : Value} {Q : Exit → Act → World → Prop} {W : World} {sv : Value} 
    (hR : ∀ (y97 : Value), Q .ret ⟨#[x0, x1, sv, .int .i64 0, x4, x5, sv, x7, x8, x9, x10, x11, x12, x13, x14, x15, x16, x17, x18, x19, x20, x21, x22, x23, x24, x25, x26, x27, x28, x29, x30, x31, x32, x33, x34, x35, x36, x37, x38, x39, x40, x41, x42, x43, x44, x45, x46, x47, x48, x49, x50, x51, x52, x53, x54, x55, x56, x57, x58, x59, x60, x61, x62, x63, x64, x65, x66, x67, x68, x69, x70, x71, x72, x73, x74, x75, x76, x77, x78, x79, x80, x81, x82, x83, x84, x85, x86, x87, x88, x89, x90, x91, x92, x93, x94, x95, x96, y97], []⟩ W) :
    Code.wp Try.prog ((Try.f13.body.bind (pcFrom 23)).getD .skip) Q ⟨#[x0, x1, x2, x3, x4, x5, sv, x7, x8, x9, x10, x11, x12, x13, x14, x15, x16, x17, x18, x19, x20, x21, x22, x23, x24, x25, x26, x27, x28, x29, x30, x31, x32, x33, x34, x35, x36, x37, x38, x39, x40, x41, x42, x43, x44, x45, x46, x47, x48, x49, x50, x51, x52, x53, x54, x55, x56, x57, x58, x59, x60, x61, x62, x63, x64, x65, x66, x67, x68, x69, x70, x71, x72, x73, x74, x75, x76, x77, x78, x79, x80, x81, x82, x83, x84, x85, x86, x87, x88, x89, x90, x91, x92, x93, x94, x95, x96, x97], []⟩ W := by
  conv => arg 2; whnf
  have HR : Hid (∀ (y97 : Value), Q .ret ⟨#[x0, x1, sv, .int .i64 0, x4, x5, sv, x7, x8, x9, x10, x11, x12, x13, x14, x15, x16, x17, x18, x19, x20, x21, x22, x23, x24, x25, x26, x27, x28, x29, x30, x31, x32, x33, x34, x35, x36, x37, x38, x39, x40, x41, x42, x43, x44, x45, x46, x47, x48, x49, x50, x51, x52, x53, x54, x55, x56, x57, x58, x59, x60, x61, x62, x63, x64, x65, x66, x67, x68, x69, x70, x71, x72, x73, x74, x75, x76, x77, x78, x79, x80, x81, x82, x83, x84, x85, x86, x87, x88, x89, x90, x91, x92, x93, x94, x95, x96, y97], []⟩ W) := hR
  clear hR
  go_wp2_with fail
  exact HR.out  _ 

end Go.Proofs.Ytaiikhbfnfcalaa

namespace Go.Proofs.Ytaiikhbfnfcalaa
open Go.RowKit

theorem IOwn.lit1 (w : World) (x : Int) : IOwn (w.alloc (.cells #[.int .i64 x] 3)) w.heap.size (.slice (some ⟨w.heap.size, 0, none⟩) 1 1) [x] := ⟨rfl, .inr ⟨w.heap.size, 1, #[.int .i64 x], rfl, Nat.le_refl _, heap_alloc_new _ _, Nat.le_refl _, by unfold maxLen; omega, rfl, rfl⟩⟩
theorem IOwn.front {w : World} {base g m cap : Nat} {xs : List Int} (h : IOwn w base (.slice (some ⟨g, 0, none⟩) m cap) xs) {j : Nat} (hj : j ≤ m) : IOwn w base (.slice (some ⟨g, 0, none⟩) j cap) (xs.take j) := by
  obtain ⟨h1, h2⟩ := h
  rcases h2 with ⟨e, _⟩ | ⟨g', cap', cur, e, hb, hg, hnc, hcm, hcs, htk⟩
  · cases e
  · cases e
    have hl : (xs.take j).length = j := by simp; omega
    refine ⟨by simp, .inr ⟨g, cap, cur, by rw [hl], hb, hg, by rw [hl]; omega, hcm, hcs, ?_⟩⟩
    rw [hl, Nat.mul_one, List.map_take, ← htk, List.take_take]
    congr 1
    omega
theorem IOwn.back {w : World} {base g m cap : Nat} {xs : List Int} (h : IOwn w base (.slice (some ⟨g, 0, none⟩) m cap) xs) (hd : ∀ x, x ∈ xs → -9223372036854775808 ≤ x ∧ x < 9223372036854775808) {j : Nat} (hj : j ≤ m) : Lsts w (some ⟨g, j, none⟩) (m - j) (cap - j) (xs.drop j) := by
  obtain ⟨a, cp, e, hL, -⟩ := h.lsts hd
  cases e
  refine ⟨by simp, by have := hL.hcap; omega, by have := hL.hmax; omega, fun hp => ⟨g, j, rfl, fun i hi => ?_⟩, fun x hx => hd x (List.mem_of_mem_drop hx)⟩
  obtain ⟨b, off, e2, hc⟩ := hL.at (i := j + i) (by omega)
  cases e2
  rw [Nat.zero_add] at hc
  rw [hc]
  simp [List.getD, List.getElem?_drop]
theorem IOwn.len {w : World} {base : Nat} {a : Option Addr} {m cap : Nat} {xs : List Int} (h : IOwn w base (.slice a m cap) xs) : xs.length = m := by
  rcases h.2 with ⟨e, hn⟩ | ⟨g, cap, cur, e, _⟩
  · cases e; exact hn
  · cases e; rfl
theorem IOwn.kept {w w' : World} {base g : Nat} {v : Value} {xs : List Int} (h : IOwn w base v xs) (hg : w.grownBy w' (some g)) (hne : v.ownBlock ≠ some g) : IOwn w' base v xs := World.ownsRow.kept h hg (.inr hne)

set_option maxRecDepth 100000 in
set_option maxHeartbeats 12800000 in
theorem al_p22 {x1 x2 x3 x4 x5 x8 x9 x11 x12 x13 x14 x15 x16 x17 x18 x19 x20 x21 x22 x23 x24 x25 x26 x27 x28 x29 x30 x31 x32 x33 x34 x35 x36 x37 x38 x39 x40 x41 x42 x43 x44 x45 x46 x47 x48 x49 x50 x51 x52 x53 x54 x55 x56 x57 x58 x59 x60 x61 x62 x63 x64 x65 x66 x67 x68 x69 x70 x71 x72 x73 x74 x75 x76 x77 x78 x79 x80 x81 x82 x83 x84 x85 x86 x87 x88 x89 x90 x91 x92 x93 x94 x95 x96 x97 : Value} {Q : Exit → Act → World → Prop} {W : World} {b off l c i j b0 o0 n0 k0 m cq base : Nat} {q : Option Addr} {x : Int} {xs : List Int} (m0 : W.cell? ⟨b, off, none⟩ = some (.slice (some ⟨b0, o0, none⟩) n0 k0)) (mi : W.cell? ⟨b0, o0 + i, none⟩ = some (.int .i64 x)) (hi : i < n0) (hl : 0 < l) (hO : IOwn W base (.slice q m cq) xs) (hd : ∀ x, x ∈ xs → -9223372036854775808 ≤ x ∧ x < 9223372036854775808) (hdx : -9223372036854775808 ≤ x ∧ x < 9223372036854775808) (hj : j ≤ m) (hm : m ≤ 256) (hbase : base ≤ W.heap.size)
    (hN : ∀ (v6 : Value) (wx : World) (y82 y83 y84 y85 y86 y87 y88 y89 y90 y91 y92 y93 y94 y95 y96 : Value), IOwn wx base v6 (xs.take j ++ ([x] ++ xs.drop j)) → Below base W wx → Q .normal ⟨#[.slice (some ⟨b, off, none⟩) l c, x1, x2, x3, x4, x5, v6, .int .i64 (i : Int), x8, x9, .int .i64 (j : Int), x11, x12, x13, x14, x15, x16, x17, x18, x19, x20, x21, x22, x23, x24, x25, x26, x27, x28, x29, x30, x31, x32, x33, x34, x35, x36, x37, x38, x39, x40, x41, x42, x43, x44, x45, x46, x47, x48, x49, x50, x51, x52, x53, x54, x55, x56, x57, x58, x59, x60, x61, x62, x63, x64, x65, x66, x67, x68, x69, x70, x71, x72, x73, x74, x75, x76, x77, x78, x79, x80, x81, y82, y83, y84, y85, y86, y87, y88, y89, y90, y91, y92, y93, y94, y95, y96, x97], []⟩ wx) :
    Code.wp Try.prog (((Try.f13.body.bind (pcBlk 3)).bind (pcFrom 22)).getD .skip) Q ⟨#[.slice (some ⟨b, off, none⟩) l c, x1, x2, x3, x4, x5, .slice q m cq, .int .i64 (i : Int), x8, x9, .int .i64 (j : Int), x11, x12, x13, x14, x15, x16, x17, x18, x19, x20, x21, x22, x23, x24, x25, x26, x27, x28, x29, x30, x31, x32, x33, x34, x35, x36, x37, x38, x39, x40, x41, x42, x43, x44, x45, x46, x47, x48, x49, x50, x51, x52, x53, x54, x55, x56, x57, x58, x59, x60, x61, x62, x63, x64, x65, x66, x67, x68, x69, x70, x71, x72, x73, x74, x75, x76, x77, x78, x79, x80, x81, x82, x83, x84, x85, x86, x87, x88, x89, x90, x91, x92, x93, x94, x95, x96, x97], []⟩ W := by
  conv => arg 2; whnf
  have HN : Hid (∀ (v6 : Value) (wx : World) (y82 y83 y84 y85 y86 y87 y88 y89 y90 y91 y92 y93 y94 y95 y96 : Value), IOwn wx base v6 (xs.take j ++ ([x] ++ xs.drop j)) → Below base W wx → Q .normal ⟨#[.slice (some ⟨b, off, none⟩) l c, x1, x2, x3, x4, x5, v6, .int .i64 (i : Int), x8, x9, .int .i64 (j : Int), x11, x12, x13, x14, x15, x16, x17, x18, x19, x20, x21, x22, x23, x24, x25, x26, x27, x28, x29, x30, x31, x32, x33, x34, x35, x36, x37, x38, x39, x40, x41, x42, x43, x44, x45, x46, x47, x48, x49, x50, x51, x52, x53, x54, x55, x56, x57, x58, x59, x60, x61, x62, x63, x64, x65, x66, x67, x68, x69, x70, x71, x72, x73, x74, x75, x76, x77, x78, x79, x80, x81, y82, y83, y84, y85, y86, y87, y88, y89, y90, y91, y92, y93, y94, y95, y96, x97], []⟩ wx) := hN
  clear hN
  have hl1 : (0 : Int) < (l : Int) := by omega
  have hi1 : (i : Int) < (n0 : Int) := by omega
  have hi0 : (0 : Int) ≤ (i : Int) := by omega
  have hj0 : (0 : Int) ≤ (j : Int) := by omega
  have hjm : (j : Int) ≤ (m : Int) := by omega
  have hw1 : Below W.heap.size W ((W.alloc (.cells #[.int .i64 x] 3)).drew) := bthen (balloc W _) (below_drewN (Below.refl _ _) 1)
  have hs1 : ((W.alloc (.cells #[.int .i64 x] 3)).drew).heap.size = W.heap.size + 1 := by
    show (W.heap.push _).size = _
    simp
  have HSz : Hid (W.heap.size < ((W.alloc (.cells #[.int .i64 x] 3)).drew).heap.size) := by show _ < _; rw [hs1]; exact Nat.lt_succ_self _
  have HLit : Hid (IOwn ((W.alloc (.cells #[.int .i64 x] 3)).drew) W.heap.size (.slice (some ⟨W.heap.size, 0, none⟩) 1 1) [x]) := World.ownsRow.kept (IOwn.lit1 W x) (grown_of_below (below_drewN (Below.refl _ _) 1) none) (.inr (by simp [Value.ownBlock]))
  have hlen := hO.len
  have HG5 : Hid (∀ w5 : World, ((W.alloc (.cells #[.int .i64 x] 3)).drew).grownBy w5 (some W.heap.size) → Below W.heap.size W w5) := fun w5 g5 => hw1.trans ⟨g5.os, g5.tape, g5.output, g5.size, fun k hk => g5.block k (by rw [hs1]; omega) (fun e => by cases e; exact Nat.lt_irrefl _ hk)⟩
  have HBs : Hid (base ≤ W.heap.size ∧ ∀ w5 : World, Below W.heap.size W w5 → base ≤ w5.heap.size) := ⟨hbase, fun w5 hb => Nat.le_trans hbase hb.size⟩
  refine wp_pcOnly ?_
  cases q with
  | none =>
    have e0 : m = 0 ∧ cq = 0 := by
      rcases hO.2 with ⟨e, hn⟩ | ⟨g, cap, cur, e, _⟩
      · cases e; exact ⟨rfl, rfl⟩
      · cases e
    obtain ⟨rfl, rfl⟩ := e0
    obtain rfl : j = 0 := by omega
    have ex : xs = [] := List.eq_nil_of_length_eq_zero hlen
    subst ex
    have HLs : Hid (Lsts ((W.alloc (.cells #[.int .i64 x] 3)).drew) none 0 0 []) := Lsts.nil _
    have HX : Hid (∀ v5 w5, IOwn w5 W.heap.size v5 ([x] ++ []) → ((W.alloc (.cells #[.int .i64 x] 3)).drew).grownBy w5 (some W.heap.size) → ∃ a5 c5, v5 = .slice a5 (0 + 1) c5 ∧ Lsts w5 a5 (0 + 1) c5 ([x] ++ []) ∧ Hid (Below W.heap.size W w5) ∧ Hid (IOwn w5 base (.slice none 0 0) [])) := fun v5 w5 h5 g5 => by
      obtain ⟨a5, c5, e, hL5, -⟩ := h5.lsts (fun y hy => by
        rcases List.mem_append.1 hy with r | r
        · simp at r; subst r; exact hdx
        · exact hd y (by first | exact List.mem_of_mem_drop r | (exact absurd r (by simp))))
      have el : ([x] ++ []).length = 0 + 1 := by simp; try omega
      rw [el] at e hL5
      exact ⟨a5, c5, e, hL5, HG5.out w5 g5, IOwn.nil _ _⟩
    have HY : Hid (∀ w5 v6 w6, Hid (Below W.heap.size W w5) → IOwn w6 base v6 ([] ++ ([x] ++ [])) → w5.grownBy w6 none → Hid (IOwn w6 base v6 ([] ++ ([x] ++ [])) ∧ Below base W w6)) := fun w5 v6 w6 hb5 h6 g6 =>
      ⟨h6, (hb5.out.mono hbase).trans ⟨g6.os, g6.tape, g6.output, g6.size, fun k hk => g6.block k (Nat.lt_of_lt_of_le hk (Nat.le_trans hbase hb5.out.size)) (fun e => by cases e; try omega)⟩⟩
    have HZ : Hid (([] : List Int).length + (0 + 1) < 1000000 ∧ ([x] : List Int).length + 0 < 1000000) := ⟨by simp; try omega, by simp; try omega⟩
    clear hO hd hdx hw1 hs1 hlen hbase HG5 
    go_wp2_with fail
    go_region_law (first
      | (refine step_appIs _ rfl (.tmp 91) (.tmp 94) rfl W.heap.size _ [x] (by rfl) HLit.out none (0) (0) ([]) (by rfl) HLs.out HZ.out.2 (Nat.le_of_lt HSz.out) ?_; intro v5 w5 h5 g5; obtain ⟨a5, c5, rfl, hL5, hb5, ho5⟩ := HX.out v5 w5 h5 g5; clear h5 g5)
      | (refine step_appIs _ rfl (.tmp 84) (.tmp 95) rfl base (.slice none 0 0) ([]) (by rfl) (Hid.out (by assumption)) _ (0 + 1) _ ([x] ++ []) (by rfl) (by assumption) HZ.out.1 (HBs.out.2 _ (Hid.out (by assumption))) ?_; intro v6 w6 h6 g6; have hF6 := HY.out _ v6 w6 (by assumption) h6 g6; clear h6 g6)
      | fail)
    all_goals
      go_wp2_with fail
      obtain ⟨f1, f2⟩ := (by assumption : Hid (IOwn _ base _ ([] ++ ([x] ++ [])) ∧ Below base W _)).out
      exact HN.out _ _ _ _ _ _ _ _ _ _ _ _ _ _ _ _ _ f1 f2
  | some ad =>
    have ea : ∃ g, ad = ⟨g, 0, none⟩ ∧ base ≤ g ∧ g < W.heap.size := by
      rcases hO.2 with ⟨e, _⟩ | ⟨g, cap, cur, e, hb, hg, _⟩
      · cases e
      · cases e
        exact ⟨g, rfl, hb, (Array.getElem?_eq_some_iff.1 hg).1⟩
    obtain ⟨g, rfl, hgb, hgl⟩ := ea
    have hmc : m ≤ cq := by
      rcases hO.2 with ⟨e, _⟩ | ⟨g, cap, cur, e, hb, hg, h1, _⟩
      · cases e
      · cases e
        rw [hlen] at h1
        exact h1
    have hjc : (j : Int) ≤ (cq : Int) := by omega
    have hmci : (m : Int) ≤ (cq : Int) := by omega
    by_cases hcj : cq = j
    · obtain rfl : m = j := by omega
      subst hcj
      have HLs : Hid (Lsts ((W.alloc (.cells #[.int .i64 x] 3)).drew) (some ⟨g, 0, none⟩) 0 0 []) := ⟨rfl, Nat.le_refl _, Nat.zero_le _, fun h => absurd h (Nat.lt_irrefl _), fun x hx => by cases hx⟩
      have ed : xs.drop cq = [] := List.drop_eq_nil_of_le (by omega)
      rw [ed] at HN
      have HX : Hid (∀ v5 w5, IOwn w5 W.heap.size v5 ([x] ++ []) → ((W.alloc (.cells #[.int .i64 x] 3)).drew).grownBy w5 (some W.heap.size) → ∃ a5 c5, v5 = .slice a5 (0 + 1) c5 ∧ Lsts w5 a5 (0 + 1) c5 ([x] ++ []) ∧ Hid (Below W.heap.size W w5) ∧ Hid (IOwn w5 base (.slice (some ⟨g, 0, none⟩) cq cq) (xs.take cq))) := fun v5 w5 h5 g5 => by
        obtain ⟨a5, c5, e, hL5, -⟩ := h5.lsts (fun y hy => by
          rcases List.mem_append.1 hy with r | r
          · simp at r; subst r; exact hdx
          · exact hd y (by first | exact List.mem_of_mem_drop r | (exact absurd r (by simp))))
        have el : ([x] ++ []).length = 0 + 1 := by simp; try omega
        rw [el] at e hL5
        exact ⟨a5, c5, e, hL5, HG5.out w5 g5, (IOwn.kept (w := ((W.alloc (.cells #[.int .i64 x] 3)).drew)) (World.ownsRow.kept (hO.front hj) (grown_of_below hw1 none) (.inr (by simp [Value.ownBlock]))) g5 (fun e => by simp [Value.ownBlock] at e; omega))⟩
      have HY : Hid (∀ w5 v6 w6, Hid (Below W.heap.size W w5) → IOwn w6 base v6 (xs.take cq ++ ([x] ++ [])) → w5.grownBy w6 (some g) → Hid (IOwn w6 base v6 (xs.take cq ++ ([x] ++ [])) ∧ Below base W w6)) := fun w5 v6 w6 hb5 h6 g6 =>
        ⟨h6, (hb5.out.mono hbase).trans ⟨g6.os, g6.tape, g6.output, g6.size, fun k hk => g6.block k (Nat.lt_of_lt_of_le hk (Nat.le_trans hbase hb5.out.size)) (fun e => by cases e; try omega)⟩⟩
      have HZ : Hid ((xs.take cq).length + (0 + 1) < 1000000 ∧ ([x] : List Int).length + 0 < 1000000) := ⟨by simp; try omega, by simp; try omega⟩
      clear hO hd hdx hw1 hs1 hlen hbase HG5 hgb hgl hmc ed
      go_wp2_with fail
      go_region_law (first
        | (refine step_appIs _ rfl (.tmp 91) (.tmp 94) rfl W.heap.size _ [x] (by rfl) HLit.out (some ⟨g, 0, none⟩) (0) (0) ([]) (by rfl) HLs.out HZ.out.2 (Nat.le_of_lt HSz.out) ?_; intro v5 w5 h5 g5; obtain ⟨a5, c5, rfl, hL5, hb5, ho5⟩ := HX.out v5 w5 h5 g5; clear h5 g5)
        | (refine step_appIs _ rfl (.tmp 84) (.tmp 95) rfl base (.slice (some ⟨g, 0, none⟩) cq cq) (xs.take cq) (by rfl) (Hid.out (by assumption)) _ (0 + 1) _ ([x] ++ []) (by rfl) (by assumption) HZ.out.1 (HBs.out.2 _ (Hid.out (by assumption))) ?_; intro v6 w6 h6 g6; have hF6 := HY.out _ v6 w6 (by assumption) h6 g6; clear h6 g6)
        | fail)
      all_goals
        go_wp2_with fail
        obtain ⟨f1, f2⟩ := (by assumption : Hid (IOwn _ base _ (xs.take cq ++ ([x] ++ [])) ∧ Below base W _)).out
        exact HN.out _ _ _ _ _ _ _ _ _ _ _ _ _ _ _ _ _ f1 f2
    · have HLs : Hid (Lsts ((W.alloc (.cells #[.int .i64 x] 3)).drew) (some ⟨g, j, none⟩) (m - j) (cq - j) (xs.drop j)) := (hO.back hd hj).below hw1
      have HX : Hid (∀ v5 w5, IOwn w5 W.heap.size v5 ([x] ++ xs.drop j) → ((W.alloc (.cells #[.int .i64 x] 3)).drew).grownBy w5 (some W.heap.size) → ∃ a5 c5, v5 = .slice a5 ((m - j) + 1) c5 ∧ Lsts w5 a5 ((m - j) + 1) c5 ([x] ++ xs.drop j) ∧ Hid (Below W.heap.size W w5) ∧ Hid (IOwn w5 base (.slice (some ⟨g, 0, none⟩) j cq) (xs.take j))) := fun v5 w5 h5 g5 => by
        obtain ⟨a5, c5, e, hL5, -⟩ := h5.lsts (fun y hy => by
          rcases List.mem_append.1 hy with r | r
          · simp at r; subst r; exact hdx
          · exact hd y (by first | exact List.mem_of_mem_drop r | (exact absurd r (by simp))))
        have el : ([x] ++ xs.drop j).length = (m - j) + 1 := by simp; try omega
        rw [el] at e hL5
        exact ⟨a5, c5, e, hL5, HG5.out w5 g5, (IOwn.kept (w := ((W.alloc (.cells #[.int .i64 x] 3)).drew)) (World.ownsRow.kept (hO.front hj) (grown_of_below hw1 none) (.inr (by simp [Value.ownBlock]))) g5 (fun e => by simp [Value.ownBlock] at e; omega))⟩
      have HY : Hid (∀ w5 v6 w6, Hid (Below W.heap.size W w5) → IOwn w6 base v6 (xs.take j ++ ([x] ++ xs.drop j)) → w5.grownBy w6 (some g) → Hid (IOwn w6 base v6 (xs.take j ++ ([x] ++ xs.drop j)) ∧ Below base W w6)) := fun w5 v6 w6 hb5 h6 g6 =>
        ⟨h6, (hb5.out.mono hbase).trans ⟨g6.os, g6.tape, g6.output, g6.size, fun k hk => g6.block k (Nat.lt_of_lt_of_le hk (Nat.le_trans hbase hb5.out.size)) (fun e => by cases e; try omega)⟩⟩
      have HZ : Hid ((xs.take j).length + ((m - j) + 1) < 1000000 ∧ ([x] : List Int).length + (m - j) < 1000000) := ⟨by simp; try omega, by simp; try omega⟩
      clear hO hd hdx hw1 hs1 hlen hbase HG5 hgb hgl
      go_wp2_with fail
      go_region_law (first
        | (refine step_appIs _ rfl (.tmp 91) (.tmp 94) rfl W.heap.size _ [x] (by rfl) HLit.out (some ⟨g, j, none⟩) ((m - j)) ((cq - j)) (xs.drop j) (by rfl) HLs.out HZ.out.2 (Nat.le_of_lt HSz.out) ?_; intro v5 w5 h5 g5; obtain ⟨a5, c5, rfl, hL5, hb5, ho5⟩ := HX.out v5 w5 h5 g5; clear h5 g5)
        | (refine step_appIs _ rfl (.tmp 84) (.tmp 95) rfl base (.slice (some ⟨g, 0, none⟩) j cq) (xs.take j) (by rfl) (Hid.out (by assumption)) _ ((m - j) + 1) _ ([x] ++ xs.drop j) (by rfl) (by assumption) HZ.out.1 (HBs.out.2 _ (Hid.out (by assumption))) ?_; intro v6 w6 h6 g6; have hF6 := HY.out _ v6 w6 (by assumption) h6 g6; clear h6 g6)
        | fail)
      all_goals
        go_wp2_with fail
        obtain ⟨f1, f2⟩ := (by assumption : Hid (IOwn _ base _ (xs.take j ++ ([x] ++ xs.drop j)) ∧ Below base W _)).out
        exact HN.out _ _ _ _ _ _ _ _ _ _ _ _ _ _ _ _ _ f1 f2

end Go.Proofs.Ytaiikhbfnfcalaa

namespace Go.Proofs.Ytaiikhbfnfcalaa
open Go.RowKit

/-- What Align has come to: of the first i ids those that stand in all lists, rising. -/
structure AlI (Ls : List (List Int)) (i : Nat) (xs : List Int) : Prop where
  rise : xs.Pairwise (· < ·)
  mem : ∀ y, y ∈ xs ↔ y ∈ (Ls.getD 0 []).take i ∧ ∀ k, 1 ≤ k → k < Ls.length → y ∈ Ls.getD k []
  few : xs.length ≤ i
theorem AlI.start (Ls : List (List Int)) : AlI Ls 0 [] := ⟨List.Pairwise.nil, fun y => by simp, Nat.le_refl _⟩
theorem take_one {L : List Int} {i : Nat} (hi : i < L.length) : L.take (i + 1) = L.take i ++ [L.getD i 0] := by
  rw [List.take_add_one]
  simp [List.getD, hi]
theorem AlI.skip {Ls : List (List Int)} {i : Nat} {xs : List Int} (h : AlI Ls i xs) (hi : i < (Ls.getD 0 []).length) (hn : ¬ ∀ k, 1 ≤ k → k < Ls.length → (Ls.getD 0 []).getD i 0 ∈ Ls.getD k []) : AlI Ls (i + 1) xs := ⟨h.rise, fun y => by
  rw [take_one hi, h.mem y, List.mem_append]
  constructor
  · exact fun ⟨p, q⟩ => ⟨.inl p, q⟩
  · rintro ⟨p | p, q⟩
    · exact ⟨p, q⟩
    · simp at p
      subst p
      exact absurd q hn, Nat.le_succ_of_le h.few⟩
theorem insert_rise {xs : List Int} {x : Int} {j : Nat} (hr : xs.Pairwise (· < ·)) (hx : x ∉ xs) (hj : j ≤ xs.length) (h1 : ∀ t, t < j → xs.getD t 0 < x) (h2 : j = xs.length ∨ ¬ xs.getD j 0 < x) : (xs.take j ++ ([x] ++ xs.drop j)).Pairwise (· < ·) := by
  have hA : ∀ a, a ∈ xs.take j → a < x := fun a ha => by
    obtain ⟨t, ht, e⟩ := List.mem_iff_getElem.1 ha
    have ht' : t < j := by simp at ht; omega
    have := h1 t ht'
    rw [← e]
    simpa [List.getD, List.getElem?_eq_getElem (show t < xs.length by omega)] using this
  have hB : ∀ a, a ∈ xs.drop j → x < a := fun a ha => by
    rcases h2 with e | e
    · rw [e, List.drop_length] at ha
      cases ha
    · obtain ⟨t, ht, e2⟩ := List.mem_iff_getElem.1 ha
      have hl : j + t < xs.length := by simp at ht; omega
      have e3 : xs[j + t] = a := by rw [← e2]; simp
      have hjl : j < xs.length := by omega
      have hge : xs.getD j 0 ≤ a := by
        rw [show xs.getD j 0 = xs[j] by simp [List.getD, List.getElem?_eq_getElem hjl], ← e3]
        rcases Nat.eq_zero_or_pos t with z | z
        · subst z; exact Int.le_refl _
        · exact Int.le_of_lt ((List.pairwise_iff_getElem.1 hr) j (j + t) hjl hl (by omega))
      have hne : a ≠ x := fun q => hx (by rw [← q, ← e3]; exact List.getElem_mem hl)
      omega
  rw [List.pairwise_append]
  refine ⟨hr.sublist (List.take_sublist _ _), ?_, fun a ha b hb => ?_⟩
  · rw [List.singleton_append, List.pairwise_cons]
    exact ⟨hB, hr.sublist (List.drop_sublist _ _)⟩
  · have ha' := hA a ha
    rcases List.mem_append.1 hb with r | r
    · simp at r; omega
    · have := hB b r; omega
theorem take_getD {L : List Int} {i t : Nat} (ht : t < (L.take i).length) : L.getD t 0 = (L.take i)[t] := by
  have : t < L.length := by simp at ht; omega
  simp [List.getD, List.getElem?_eq_getElem this]
theorem AlI.more {Ls : List (List Int)} {i j : Nat} {xs : List Int} (h : AlI Ls i xs) (hi : i < (Ls.getD 0 []).length) (hok : IdsOk (Ls.getD 0 [])) (hall : ∀ k, 1 ≤ k → k < Ls.length → (Ls.getD 0 []).getD i 0 ∈ Ls.getD k []) (hj : j ≤ xs.length) (h1 : ∀ t, t < j → xs.getD t 0 < (Ls.getD 0 []).getD i 0) (h2 : j = xs.length ∨ ¬ xs.getD j 0 < (Ls.getD 0 []).getD i 0) : AlI Ls (i + 1) (xs.take j ++ ([(Ls.getD 0 []).getD i 0] ++ xs.drop j)) := by
  have hx : (Ls.getD 0 []).getD i 0 ∉ xs := fun q => by
    have hm := ((h.mem _).1 q).1
    obtain ⟨t, ht, e⟩ := List.mem_iff_getElem.1 hm
    have ht' : t < i := by simp at ht; omega
    have hp := (nodup_idx.1 hok.nod) i hi
    have hp2 := (nodup_idx.1 hok.nod) t (by omega)
    have e2 : (Ls.getD 0 []).getD t 0 = (Ls.getD 0 []).getD i 0 := (take_getD ht).trans e
    rw [e2, hp] at hp2
    omega
  refine ⟨insert_rise h.rise hx hj h1 h2, fun y => ?_, ?_⟩
  · have e : y ∈ xs.take j ++ ([(Ls.getD 0 []).getD i 0] ++ xs.drop j) ↔ y = (Ls.getD 0 []).getD i 0 ∨ y ∈ xs := by
      have hs : xs.take j ++ xs.drop j = xs := List.take_append_drop _ _
      constructor
      · intro q
        rcases List.mem_append.1 q with r | r
        · exact .inr (List.mem_of_mem_take r)
        · rcases List.mem_append.1 r with r | r
          · exact .inl (by simpa using r)
          · exact .inr (List.mem_of_mem_drop r)
      · rintro (r | r)
        · exact List.mem_append.2 (.inr (List.mem_append.2 (.inl (by simp [r]))))
        · rw [← hs] at r
          rcases List.mem_append.1 r with r | r
          · exact List.mem_append.2 (.inl r)
          · exact List.mem_append.2 (.inr (List.mem_append.2 (.inr r)))
    rw [e, take_one hi, h.mem y, List.mem_append]
    constructor
    · rintro (r | ⟨p, q⟩)
      · exact ⟨.inr (by simp [r]), by rw [r]; exact hall⟩
      · exact ⟨.inl p, q⟩
    · rintro ⟨p | p, q⟩
      · exact .inr ⟨p, q⟩
      · exact .inl (by simpa using p)
  · have := h.few
    simp
    omega
theorem AlI.whole {Ls : List (List Int)} {xs : List Int} (h : AlI Ls (Ls.getD 0 []).length xs) (hl : 0 < Ls.length) : IsAlign Ls xs := ⟨h.rise, fun y => by
  rw [h.mem y, List.take_length]
  constructor
  · rintro ⟨p, q⟩ L hL
    obtain ⟨j, hj, e⟩ := mem_atL hL
    rw [← e]
    rcases Nat.eq_zero_or_pos j with z | z
    · rw [z]; exact p
    · exact q j z hj
  · intro q
    exact ⟨q _ (mem_getDL hl), fun k _ hk => q _ (mem_getDL hk)⟩⟩

set_option maxRecDepth 100000 in
set_option maxHeartbeats 12800000 in
theorem al_l4 {x1 x2 x3 x4 x5 x6 x9 x10 x11 x12 x13 x14 x15 x16 x17 x18 x19 x20 x21 x22 x23 x24 x25 x26 x27 x28 x29 x30 x31 x32 x33 x34 x35 x36 x37 x38 x39 x40 x41 x42 x43 x44 x45 x46 x47 x48 x49 x50 x51 x52 x53 x54 x55 x56 x57 x58 x59 x60 x61 x62 x63 x64 x65 x66 x67 x68 x69 x70 x71 x72 x73 x74 x75 x76 x77 x78 x79 x80 x81 x82 x83 x84 x85 x86 x87 x88 x89 x90 x91 x92 x93 x94 x95 x96 x97 : Value} {Q : Exit → Act → World → Prop} {W : World} {b off l c i : Nat} {Ls : List (List Int)} (h : IRows W (some ⟨b, off, none⟩) l c Ls) (hl : 0 < l) (h16 : l ≤ 16) (hi : i < (Ls.getD 0 []).length)
    (hN : ∀ (z : Bool) (wx : World) (y9 y40 y41 y42 y43 y44 y45 y46 y47 y48 y49 y50 y51 y52 y53 y54 y55 y56 y57 y58 y59 y60 : Value), (z = true ↔ ∀ k, 1 ≤ k → k < l → (Ls.getD 0 []).getD i 0 ∈ Ls.getD k []) → Below W.heap.size W wx → Q .normal ⟨#[.slice (some ⟨b, off, none⟩) l c, x1, x2, x3, x4, x5, x6, .int .i64 (i : Int), .bool z, y9, x10, x11, x12, x13, x14, x15, x16, x17, x18, x19, x20, x21, x22, x23, x24, x25, x26, x27, x28, x29, x30, x31, x32, x33, x34, x35, x36, x37, x38, x39, y40, y41, y42, y43, y44, y45, y46, y47, y48, y49, y50, y51, y52, y53, y54, y55, y56, y57, y58, y59, y60, x61, x62, x63, x64, x65, x66, x67, x68, x69, x70, x71, x72, x73, x74, x75, x76, x77, x78, x79, x80, x81, x82, x83, x84, x85, x86, x87, x88, x89, x90, x91, x92, x93, x94, x95, x96, x97], []⟩ wx) :
    Code.wp Try.prog (((Try.f13.body.bind (pcBlk 3)).bind (pcAt 14)).getD .skip) Q ⟨#[.slice (some ⟨b, off, none⟩) l c, x1, x2, x3, x4, x5, x6, .int .i64 (i : Int), .bool true, x9, x10, x11, x12, x13, x14, x15, x16, x17, x18, x19, x20, x21, x22, x23, x24, x25, x26, x27, x28, x29, x30, x31, x32, x33, x34, x35, x36, x37, x38, x39, x40, x41, x42, x43, x44, x45, x46, x47, x48, x49, x50, x51, x52, x53, x54, x55, x56, x57, x58, x59, x60, x61, x62, x63, x64, x65, x66, x67, x68, x69, x70, x71, x72, x73, x74, x75, x76, x77, x78, x79, x80, x81, x82, x83, x84, x85, x86, x87, x88, x89, x90, x91, x92, x93, x94, x95, x96, x97], []⟩ W := by
  conv => arg 2; whnf
  have HN : Hid (∀ (z : Bool) (wx : World) (y9 y40 y41 y42 y43 y44 y45 y46 y47 y48 y49 y50 y51 y52 y53 y54 y55 y56 y57 y58 y59 y60 : Value), (z = true ↔ ∀ k, 1 ≤ k → k < l → (Ls.getD 0 []).getD i 0 ∈ Ls.getD k []) → Below W.heap.size W wx → Q .normal ⟨#[.slice (some ⟨b, off, none⟩) l c, x1, x2, x3, x4, x5, x6, .int .i64 (i : Int), .bool z, y9, x10, x11, x12, x13, x14, x15, x16, x17, x18, x19, x20, x21, x22, x23, x24, x25, x26, x27, x28, x29, x30, x31, x32, x33, x34, x35, x36, x37, x38, x39, y40, y41, y42, y43, y44, y45, y46, y47, y48, y49, y50, y51, y52, y53, y54, y55, y56, y57, y58, y59, y60, x61, x62, x63, x64, x65, x66, x67, x68, x69, x70, x71, x72, x73, x74, x75, x76, x77, x78, x79, x80, x81, x82, x83, x84, x85, x86, x87, x88, x89, x90, x91, x92, x93, x94, x95, x96, x97], []⟩ wx) := hN
  clear hN
  refine pcSeq (fun Q1 n1 r1 _ => ?_)
  go_wp2_with fail
  refine n1 _ _ (pcBlock (fun Q2 n2 e2 r2 => ?_))
  go_loopw [8, 9] (fun v8 v9 wr => ∃ (k : Nat) (z : Bool), v8 = .bool z ∧ v9 = .int .i64 (k : Int) ∧ 1 ≤ k ∧ k ≤ l ∧ Hid (z = true ↔ ∀ j, 1 ≤ j → j < k → (Ls.getD 0 []).getD i 0 ∈ Ls.getD j []) ∧ Below W.heap.size W wr) (fun _ v9 _ => l - (intOf v9).toNat)
  case atStart => exact ⟨1, true, rfl, rfl, Nat.le_refl _, hl, ⟨fun _ j h1 h2 => absurd h2 (by omega), fun _ => rfl⟩, Below.refl _ _⟩
  case round =>
    obtain ⟨k, z, rfl, rfl, hk1, hk, HZ, hb⟩ := hrel
    refine pcSeq (fun Q3 n3 r3 e3 => al_t15 hk ?_ ?_)
    · intros
      rename_i hlt
      refine n3 _ _ (pcSeq (fun Q4 n4 r4 e4 => pcBlock (fun Q5 n5 e5 r5 => ?_)))
      have hr := h.below hb
      obtain ⟨b', off', p0, n0, k0, ea, m0, hL0⟩ := hr.at (i := 0) hl
      cases ea
      rw [Nat.add_zero] at m0
      have hl0 := hL0.hlen
      obtain ⟨b0, o0, rfl, mi⟩ := hL0.at (i := i) (by omega)
      obtain ⟨b', off', pk, nk, kk, ea, mk, hLk⟩ := hr.at (i := k) hlt
      cases ea
      refine al_p17 m0 mi (by omega) hl mk hlt hLk ?_
      intro wx
      intros
      rename_i hbx
      refine n5 _ _ (n4 _ _ (al_p16 (by omega) ?_))
      intros
      dsimp only [Exit.then]
      go_roundw
      case rel =>
        refine ⟨k + 1, _, rfl, by go_num, by omega, hlt, ?_, bthen hb hbx⟩
        show (z && decide _) = true ↔ _
        rw [Bool.and_eq_true, HZ.out, decide_eq_true_eq]
        constructor
        · rintro ⟨p, q⟩ j h1 h2
          by_cases e : j = k
          · rw [e]; exact q
          · exact p j h1 (by omega)
        · intro p
          exact ⟨fun j h1 h2 => p j h1 (by omega), p k hk1 (by omega)⟩
      case measure => simp [intOf]; omega
    · intros
      rename_i he
      subst he
      exact e3 _ _ _ (e2 _ _ (HN.out _ _ _ _ _ _ _ _ _ _ _ _ _ _ _ _ _ _ _ _ _ _ _ _ HZ.out hb))

set_option maxRecDepth 100000 in
set_option maxHeartbeats 12800000 in
theorem al_l6 {x1 x2 x3 x4 x5 x8 x9 x11 x12 x13 x14 x15 x16 x17 x18 x19 x20 x21 x22 x23 x24 x25 x26 x27 x28 x29 x30 x31 x32 x33 x34 x35 x36 x37 x38 x39 x40 x41 x42 x43 x44 x45 x46 x47 x48 x49 x50 x51 x52 x53 x54 x55 x56 x57 x58 x59 x60 x61 x62 x63 x64 x65 x66 x67 x68 x69 x70 x71 x72 x73 x74 x75 x76 x77 x78 x79 x80 x81 x82 x83 x84 x85 x86 x87 x88 x89 x90 x91 x92 x93 x94 x95 x96 x97 : Value} {Q : Exit → Act → World → Prop} {W : World} {b off l c i b0 o0 n0 k0 m cq : Nat} {q : Option Addr} {x : Int} {xs : List Int} (m0 : W.cell? ⟨b, off, none⟩ = some (.slice (some ⟨b0, o0, none⟩) n0 k0)) (mi : W.cell? ⟨b0, o0 + i, none⟩ = some (.int .i64 x)) (hi : i < n0) (hl : 0 < l) (hS : Lsts W q m cq xs) (hm : m ≤ 256)
    (hN : ∀ (j : Nat) (wx : World) (y63 y64 y65 y66 y67 y68 y69 y70 y71 y72 y73 y74 y75 y76 y77 y78 y79 y80 y81 : Value), Below W.heap.size W wx → j ≤ m → (∀ t, t < j → xs.getD t 0 < x) → (j = m ∨ ¬ xs.getD j 0 < x) → Q .normal ⟨#[.slice (some ⟨b, off, none⟩) l c, x1, x2, x3, x4, x5, .slice q m cq, .int .i64 (i : Int), x8, x9, .int .i64 (j : Int), x11, x12, x13, x14, x15, x16, x17, x18, x19, x20, x21, x22, x23, x24, x25, x26, x27, x28, x29, x30, x31, x32, x33, x34, x35, x36, x37, x38, x39, x40, x41, x42, x43, x44, x45, x46, x47, x48, x49, x50, x51, x52, x53, x54, x55, x56, x57, x58, x59, x60, x61, x62, y63, y64, y65, y66, y67, y68, y69, y70, y71, y72, y73, y74, y75, y76, y77, y78, y79, y80, y81, x82, x83, x84, x85, x86, x87, x88, x89, x90, x91, x92, x93, x94, x95, x96, x97], []⟩ wx) :
    Code.wp Try.prog (((Try.f13.body.bind (pcBlk 3)).bind (pcAt 20)).getD .skip) Q ⟨#[.slice (some ⟨b, off, none⟩) l c, x1, x2, x3, x4, x5, .slice q m cq, .int .i64 (i : Int), x8, x9, .int .i64 0, x11, x12, x13, x14, x15, x16, x17, x18, x19, x20, x21, x22, x23, x24, x25, x26, x27, x28, x29, x30, x31, x32, x33, x34, x35, x36, x37, x38, x39, x40, x41, x42, x43, x44, x45, x46, x47, x48, x49, x50, x51, x52, x53, x54, x55, x56, x57, x58, x59, x60, x61, x62, x63, x64, x65, x66, x67, x68, x69, x70, x71, x72, x73, x74, x75, x76, x77, x78, x79, x80, x81, x82, x83, x84, x85, x86, x87, x88, x89, x90, x91, x92, x93, x94, x95, x96, x97], []⟩ W := by
  conv => arg 2; whnf
  have HN : Hid (∀ (j : Nat) (wx : World) (y63 y64 y65 y66 y67 y68 y69 y70 y71 y72 y73 y74 y75 y76 y77 y78 y79 y80 y81 : Value), Below W.heap.size W wx → j ≤ m → (∀ t, t < j → xs.getD t 0 < x) → (j = m ∨ ¬ xs.getD j 0 < x) → Q .normal ⟨#[.slice (some ⟨b, off, none⟩) l c, x1, x2, x3, x4, x5, .slice q m cq, .int .i64 (i : Int), x8, x9, .int .i64 (j : Int), x11, x12, x13, x14, x15, x16, x17, x18, x19, x20, x21, x22, x23, x24, x25, x26, x27, x28, x29, x30, x31, x32, x33, x34, x35, x36, x37, x38, x39, x40, x41, x42, x43, x44, x45, x46, x47, x48, x49, x50, x51, x52, x53, x54, x55, x56, x57, x58, x59, x60, x61, x62, y63, y64, y65, y66, y67, y68, y69, y70, y71, y72, y73, y74, y75, y76, y77, y78, y79, y80, y81, x82, x83, x84, x85, x86, x87, x88, x89, x90, x91, x92, x93, x94, x95, x96, x97], []⟩ wx) := hN
  clear hN
  refine pcBlock (fun Q2 n2 e2 r2 => ?_)
  go_frame
  go_loopw [10] (fun v10 wr => ∃ j : Nat, v10 = .int .i64 (j : Int) ∧ j ≤ m ∧ (∀ t, t < j → xs.getD t 0 < x) ∧ Below W.heap.size W wr) (fun v10 _ => m - (intOf v10).toNat)
  case atStart => exact ⟨0, rfl, Nat.zero_le _, fun t ht => absurd ht (by omega), Below.refl _ _⟩
  case round =>
    obtain ⟨j, rfl, hj, hlow, hb⟩ := hrel
    have m0' := bkeep hb m0 rfl
    have mi' := bkeep hb mi rfl
    refine pcSeq (fun Q3 n3 r3 e3 => al_p20 m0' mi' hi hl (hS.below hb) ?_ ?_)
    · intro wx
      intros
      rename_i hbx hjm hlt
      refine n3 _ _ (pcBlock (fun Q5 n5 e5 r5 => al_p21 (by omega) ?_))
      intros
      refine n5 _ _ ?_
      dsimp only [Exit.then]
      go_roundw
      case rel => exact ⟨j + 1, by go_num, hjm, fun t ht => by
        by_cases e : t = j
        · rw [e]; exact hlt
        · exact hlow t (by omega), bthen hb hbx⟩
      case measure => simp [intOf]; omega
    · intro wx
      intros
      rename_i hbx hno
      have hor : j = m ∨ ¬ xs.getD j 0 < x := by
        by_cases e : j = m
        · exact .inl e
        · exact .inr (fun q => hno ⟨by omega, q⟩)
      exact e3 _ _ _ (e2 _ _ (HN.out _ _ _ _ _ _ _ _ _ _ _ _ _ _ _ _ _ _ _ _ _ (bthen hb hbx) hj hlow hor))

set_option maxRecDepth 100000 in
set_option maxHeartbeats 12800000 in
theorem al_l2 {x1 x2 x3 x4 x5 x7 x8 x9 x10 x11 x12 x13 x14 x15 x16 x17 x18 x19 x20 x21 x22 x23 x24 x25 x26 x27 x28 x29 x30 x31 x32 x33 x34 x35 x36 x37 x38 x39 x40 x41 x42 x43 x44 x45 x46 x47 x48 x49 x50 x51 x52 x53 x54 x55 x56 x57 x58 x59 x60 x61 x62 x63 x64 x65 x66 x67 x68 x69 x70 x71 x72 x73 x74 x75 x76 x77 x78 x79 x80 x81 x82 x83 x84 x85 x86 x87 x88 x89 x90 x91 x92 x93 x94 x95 x96 x97 : Value} {Q : Exit → Act → World → Prop} {W : World} {b off l c : Nat} {Ls : List (List Int)} (h : IRows W (some ⟨b, off, none⟩) l c Ls) (hl : 0 < l) (h16 : l ≤ 16) (hok : IdsAll Ls)
    (hN : ∀ (v6 : Value) (xs : List Int) (wx : World) (y7 y8 y9 y10 y32 y33 y34 y35 y36 y37 y38 y39 y40 y41 y42 y43 y44 y45 y46 y47 y48 y49 y50 y51 y52 y53 y54 y55 y56 y57 y58 y59 y60 y61 y62 y63 y64 y65 y66 y67 y68 y69 y70 y71 y72 y73 y74 y75 y76 y77 y78 y79 y80 y81 y82 y83 y84 y85 y86 y87 y88 y89 y90 y91 y92 y93 y94 y95 y96 : Value), IOwn wx W.heap.size v6 xs → IsAlign Ls xs → Below W.heap.size W wx → Q .normal ⟨#[.slice (some ⟨b, off, none⟩) l c, x1, x2, x3, x4, x5, v6, y7, y8, y9, y10, x11, x12, x13, x14, x15, x16, x17, x18, x19, x20, x21, x22, x23, x24, x25, x26, x27, x28, x29, x30, x31, y32, y33, y34, y35, y36, y37, y38, y39, y40, y41, y42, y43, y44, y45, y46, y47, y48, y49, y50, y51, y52, y53, y54, y55, y56, y57, y58, y59, y60, y61, y62, y63, y64, y65, y66, y67, y68, y69, y70, y71, y72, y73, y74, y75, y76, y77, y78, y79, y80, y81, y82, y83, y84, y85, y86, y87, y88, y89, y90, y91, y92, y93, y94, y95, y96, x97], []⟩ wx) :
    Code.wp Try.prog ((Try.f13.body.bind (pcAt 10)).getD .skip) Q ⟨#[.slice (some ⟨b, off, none⟩) l c, x1, x2, x3, x4, x5, .slice none 0 0, x7, x8, x9, x10, x11, x12, x13, x14, x15, x16, x17, x18, x19, x20, x21, x22, x23, x24, x25, x26, x27, x28, x29, x30, x31, x32, x33, x34, x35, x36, x37, x38, x39, x40, x41, x42, x43, x44, x45, x46, x47, x48, x49, x50, x51, x52, x53, x54, x55, x56, x57, x58, x59, x60, x61, x62, x63, x64, x65, x66, x67, x68, x69, x70, x71, x72, x73, x74, x75, x76, x77, x78, x79, x80, x81, x82, x83, x84, x85, x86, x87, x88, x89, x90, x91, x92, x93, x94, x95, x96, x97], []⟩ W := by
  conv => arg 2; whnf
  have HN : Hid (∀ (v6 : Value) (xs : List Int) (wx : World) (y7 y8 y9 y10 y32 y33 y34 y35 y36 y37 y38 y39 y40 y41 y42 y43 y44 y45 y46 y47 y48 y49 y50 y51 y52 y53 y54 y55 y56 y57 y58 y59 y60 y61 y62 y63 y64 y65 y66 y67 y68 y69 y70 y71 y72 y73 y74 y75 y76 y77 y78 y79 y80 y81 y82 y83 y84 y85 y86 y87 y88 y89 y90 y91 y92 y93 y94 y95 y96 : Value), IOwn wx W.heap.size v6 xs → IsAlign Ls xs → Below W.heap.size W wx → Q .normal ⟨#[.slice (some ⟨b, off, none⟩) l c, x1, x2, x3, x4, x5, v6, y7, y8, y9, y10, x11, x12, x13, x14, x15, x16, x17, x18, x19, x20, x21, x22, x23, x24, x25, x26, x27, x28, x29, x30, x31, y32, y33, y34, y35, y36, y37, y38, y39, y40, y41, y42, y43, y44, y45, y46, y47, y48, y49, y50, y51, y52, y53, y54, y55, y56, y57, y58, y59, y60, y61, y62, y63, y64, y65, y66, y67, y68, y69, y70, y71, y72, y73, y74, y75, y76, y77, y78, y79, y80, y81, y82, y83, y84, y85, y86, y87, y88, y89, y90, y91, y92, y93, y94, y95, y96, x97], []⟩ wx) := hN
  clear hN
  have hlen := h.hlen
  have ok0 : IdsOk (Ls.getD 0 []) := hok _ (mem_getDL (by omega))
  have hf := ok0.few
  refine pcSeq (fun Q1 n1 r1 _ => ?_)
  go_wp2_with fail
  refine n1 _ _ (pcBlock (fun Q2 n2 e2 r2 => ?_))
  go_loopw [6, 7] (fun v6 v7 wr => ∃ (i : Nat) (xs : List Int), v7 = .int .i64 (i : Int) ∧ i ≤ (Ls.getD 0 []).length ∧ IOwn wr W.heap.size v6 xs ∧ AlI Ls i xs ∧ Below W.heap.size W wr) (fun _ v7 _ => (Ls.getD 0 []).length - (intOf v7).toNat)
  case atStart => exact ⟨0, [], rfl, Nat.zero_le _, IOwn.nil _ _, AlI.start Ls, Below.refl _ _⟩
  case round =>
    obtain ⟨i, xs, rfl, hi, hO, hA, hb⟩ := hrel
    have hr := h.below hb
    obtain ⟨b', off', p0, n0, k0, ea, m0, hL0⟩ := hr.at (i := 0) hl
    cases ea
    rw [Nat.add_zero] at m0
    have hl0 := hL0.hlen
    have hfx := hA.few
    have hdx : ∀ y, y ∈ xs → -9223372036854775808 ≤ y ∧ y < 9223372036854775808 := fun y hy => by
      have := ok0.rng y (List.mem_of_mem_take ((hA.mem y).1 hy).1)
      omega
    refine pcSeq (fun Q3 n3 r3 e3 => al_t11 m0 hl (by omega) ?_ ?_)
    · intros
      rename_i hlt
      have hil : i < (Ls.getD 0 []).length := by omega
      obtain ⟨b0, o0, rfl, mi⟩ := hL0.at (i := i) hlt
      have hxr := ok0.rng _ (mem_getD hil)
      refine n3 _ _ (pcSeq (fun Q4 n4 r4 e4 => pcBlock (fun Q5 n5 e5 r5 => ?_)))
      refine pcSeq (fun Q6 n6 r6 e6 => al_p13 ?_)
      intros
      refine n6 _ _ (pcSeq (fun Q7 n7 r7 e7 => al_l4 hr hl h16 hil ?_))
      intro z w1
      intros
      rename_i hz hb1
      refine n7 _ _ (pcSeq (fun Q8 n8 r8 e8 => al_p18 ?_ ?_))
      · intros
        rename_i ht
        have hall := hz.1 ht
        rw [← hlen] at hall
        obtain ⟨q, cq, rfl, hLs, -⟩ := hO.lsts hdx
        have m01 := bkeep hb1 m0 rfl
        have mi1 := bkeep hb1 mi rfl
        refine n8 _ _ (pcSeq (fun Q9 n9 r9 e9 => al_p19 ?_))
        intros
        refine n9 _ _ (pcSeq (fun Q10 n10 r10 e10 => al_l6 m01 mi1 hlt hl (hLs.below hb1) (by omega) ?_))
        intro j w2
        intros
        rename_i hb2 hj hlow hor
        have m02 := bkeep hb2 m01 rfl
        have mi2 := bkeep hb2 mi1 rfl
        have hO2 : IOwn w2 W.heap.size (.slice q xs.length cq) xs := World.ownsRow.kept hO (grown_of_below (bthen hb1 hb2) none) (by cases e : (Value.slice q xs.length cq).ownBlock with | none => exact .inl rfl | some _ => exact .inr (by simp))
        have hbW2 : Below W.heap.size W w2 := bthen (bthen hb hb1) hb2
        refine n10 _ _ (al_p22 m02 mi2 hlt hl hO2 hdx (by omega) hj (by omega) hbW2.size ?_)
        intro v6 w3
        intros
        rename_i hO3 hb3
        refine n5 _ _ (n4 _ _ (al_p12 (by omega) ?_))
        intros
        dsimp only [Exit.then]
        go_roundw
        case rel => exact ⟨i + 1, _, by go_num, hil, hO3, hA.more hil ok0 hall hj hlow hor, hbW2.trans hb3⟩
        case measure => simp only [intOf]; omega
      · intros
        rename_i hf8
        have hno : ¬ ∀ k, 1 ≤ k → k < Ls.length → (Ls.getD 0 []).getD i 0 ∈ Ls.getD k [] := fun p => by
          rw [hlen] at p
          rw [hz.2 p] at hf8
          cases hf8
        have hO1 : IOwn w1 W.heap.size u6 xs := World.ownsRow.kept hO (grown_of_below hb1 none) (by cases e : u6.ownBlock with | none => exact .inl rfl | some _ => exact .inr (by simp))
        refine e8 _ _ _ (e5 _ _ (n4 _ _ (al_p12 (by omega) ?_)))
        intros
        dsimp only [Exit.then]
        go_roundw
        case rel => exact ⟨i + 1, xs, by go_num, hil, hO1, hA.skip hil hno, bthen hb hb1⟩
        case measure => simp only [intOf]; omega
    · intros
      rename_i he
      have he' : i = (Ls.getD 0 []).length := by omega
      subst he'
      exact e3 _ _ _ (e2 _ _ (HN.out _ _ _ _ _ _ _ _ _ _ _ _ _ _ _ _ _ _ _ _ _ _ _ _ _ _ _ _ _ _ _ _ _ _ _ _ _ _ _ _ _ _ _ _ _ _ _ _ _ _ _ _ _ _ _ _ _ _ _ _ _ _ _ _ _ _ _ _ _ _ _ _ hO (hA.whole (by omega)) hb))

set_option maxRecDepth 100000 in
theorem al_ret {x0 x1 x4 x5 x6 x7 x8 x9 x10 x11 x12 x13 x14 x15 x16 x17 x18 x19 x20 x21 x22 x23 x24 x25 x26 x27 x28 x29 x30 x31 x32 x33 x34 x35 x36 x37 x38 x39 x40 x41 x42 x43 x44 x45 x46 x47 x48 x49 x50 x51 x52 x53 x54 x55 x56 x57 x58 x59 x60 x61 x62 x63 x64 x65 x66 x67 x68 x69 x70 x71 x72 x73 x74 x75 x76 x77 x78 x79 x80 x81 x82 x83 x84 x85 x86 x87 x88 x89 x90 x91 x92 x93 x94 x95 x96 x97 : Value} {a : Option Addr} {l c : Nat} {er : Int} {post : Ending → World → Prop} {W : World} (h : post (.returned (.tuple #[.slice a l c, .int .i64 er])) W) : bodyPost Try.prog Try.f13 post .ret ⟨#[x0, x1, .slice a l c, .int .i64 er, x4, x5, x6, x7, x8, x9, x10, x11, x12, x13, x14, x15, x16, x17, x18, x19, x20, x21, x22, x23, x24, x25, x26, x27, x28, x29, x30, x31, x32, x33, x34, x35, x36, x37, x38, x39, x40, x41, x42, x43, x44, x45, x46, x47, x48, x49, x50, x51, x52, x53, x54, x55, x56, x57, x58, x59, x60, x61, x62, x63, x64, x65, x66, x67, x68, x69, x70, x71, x72, x73, x74, x75, x76, x77, x78, x79, x80, x81, x82, x83, x84, x85, x86, x87, x88, x89, x90, x91, x92, x93, x94, x95, x96, x97], []⟩ W :=
  bodyPost_ret (v := .tuple #[.slice a l c, .int .i64 er]) (by simp [results, Try.results13, go_sem]) rfl h

/-- What Align makes. -/
def AlignT15 (Ls : List (List Int)) (w : World) (e : Ending) (w' : World) : Prop := ∃ a l c xs err, e = .returned (.tuple #[.slice a l c, .int .i64 err]) ∧ Lsts w' a l c xs ∧ (∀ ad, a = some ad → w.heap.size ≤ ad.block) ∧ ResAlign Ls err xs ∧ Below w.heap.size w w'
set_option maxRecDepth 100000 in
set_option maxHeartbeats 3200000 in
theorem r15align_any (a : Option Addr) (l c : Nat) (Ls : List (List Int)) (w : World) (h : IRows w a l c Ls) : Calls Try.prog 13 #[.slice a l c] w fun e w' => AlignT15 Ls w e w' := by
  have hlen := h.hlen
  go_enter Try.func13, Try.ntmps13
  refine pcSeq (fun Q0 n0 r0 _ => al_p0 ?_)
  intros
  refine n0 _ _ (pcSeq (fun Q1 n1 r1 _ => al_p1 ?_ ?_))
  · intros
    rename_i hfew
    refine n1 _ _ (pcSeq (fun Q2 n2 r2 _ => al_l0 h ?_ ?_))
    · intros
      rename_i hok
      obtain ⟨b, off, p, n, k, rfl, -, -⟩ := h.at (i := 0) (Nat.pos_of_ne_zero hfew.1)
      refine n2 _ _ (pcSeq (fun Q3 n3 r3 _ => al_p9 ?_))
      intros
      refine n3 _ _ (pcSeq (fun Q4 n4 r4 _ => al_l2 h (Nat.pos_of_ne_zero hfew.1) hfew.2 hok ?_))
      intro v6 xs wx
      intros
      rename_i hO hA hb
      refine n4 _ _ (al_p23 ?_)
      intros
      have hd : ∀ y, y ∈ xs → -9223372036854775808 ≤ y ∧ y < 9223372036854775808 := fun y hy => by
        have hl0 : 0 < Ls.length := by have := hfew.1; omega
        have := (hok _ (mem_getDL hl0)).rng y ((hA.mem y).1 hy _ (mem_getDL hl0))
        omega
      obtain ⟨q, cq, rfl, hL, -⟩ := hO.lsts hd
      exact al_ret ⟨q, _, cq, xs, 0, rfl, hL, fun ad e => by subst e; exact (World.ownsRow.lt hO ad.block rfl).1, .inr (.inr ⟨by rw [hlen]; exact hfew, hok, rfl, hA⟩), hb⟩
    · intros
      rename_i hno
      exact r2 _ _ (al_ret ⟨none, 0, 0, [], 20, rfl, Lsts.nil _, fun ad e => (by cases e), .inr (.inl ⟨by rw [hlen]; exact hfew, hno, rfl, rfl⟩), Below.refl _ _⟩)
  · intros
    rename_i hno
    exact r1 _ _ (al_ret ⟨none, 0, 0, [], 1, rfl, Lsts.nil _, fun ad e => (by cases e), .inl ⟨by rw [hlen]; exact hno, rfl, rfl⟩, Below.refl _ _⟩)
end Go.Proofs.Ytaiikhbfnfcalaa
