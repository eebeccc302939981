/-
  The document's Join, its first statements. Written by mk/r15join.py.
  The document's Join. Written by mk/r15join.py.
  The document's Join: a column more. Written by mk/r15join.py.
  The document's Join, the whole. Written by mk/r15join.py.
  The document's Take, its first statements. Written by mk/r15take.py.
  The document's Take, more statements. Written by mk/r15take.py.
-/
import Derived.Test.YtaiikhbfnfcalaaR15A
import Derived.Deep.RegionLaw
import Derived.Maps.AppendAt
import Derived.BigQuiet
namespace Go.Proofs.Ytaiikhbfnfcalaa
open Go.RowKit

theorem TRows.at {w : World} {a : Option Addr} {l c : Nat} {ts : List Tab} (h : TRows w a l c ts) {i : Nat} (hi : i < l) : ∃ b off, ∃ v : TV, a = some ⟨b, off, none⟩ ∧ (w.cell? ⟨b, off + i * 3, none⟩ = some (.slice v.p0 v.l0 v.c0) ∧ w.cell? ⟨b, off + i * 3 + 1, none⟩ = some (.slice v.p1 v.l1 v.c1) ∧ w.cell? ⟨b, off + i * 3 + 2, none⟩ = some (.slice v.p2 v.l2 v.c2)) ∧ TabAt w v (ts.getD i Tab.none) := by
  obtain ⟨b, off, e, hc⟩ := h.cells (by omega)
  obtain ⟨v, h1, h2⟩ := hc i hi
  exact ⟨b, off, v, e, h1, h2⟩
theorem put3_var {W : World} {g : Nat} {v : TV} (u : TV) (h : TVar W g v) : TVar (((W.setCell ⟨g, 0, none⟩ (.slice u.p0 u.l0 u.c0)).setCell ⟨g, 1, none⟩ (.slice u.p1 u.l1 u.c1)).setCell ⟨g, 2, none⟩ (.slice u.p2 u.l2 u.c2)) g u := by
  have k1 := heap_setCell_same W g 0 _ _ (.slice u.p0 u.l0 u.c0) h
  have k2 := heap_setCell_same _ g 1 _ _ (.slice u.p1 u.l1 u.c1) k1
  have k3 := heap_setCell_same _ g 2 _ _ (.slice u.p2 u.l2 u.c2) k2
  exact k3
theorem set_only {W : World} {g j : Nat} {x : Value} : Only (fun b => b = g) W (W.setCell ⟨g, j, none⟩ x) := Only.of_grown (grown_set W g j x) (fun b e => by cases e; rfl)
theorem put3_only {W : World} {g : Nat} (x y z : Value) : Only (fun b => b = g) W (((W.setCell ⟨g, 0, none⟩ (x)).setCell ⟨g, 1, none⟩ (y)).setCell ⟨g, 2, none⟩ (z)) := Only.trans (Only.trans set_only set_only (fun _ e => .inl e)) set_only (fun _ e => .inl e)
theorem Only.below15 {W W' : World} {g B : Nat} (h : Only (fun b => b = g) W W') (hg : B ≤ g) (hs : B ≤ W.heap.size) : Below B W W' := h.below (fun b e => by rw [e]; exact hg) hs

set_option maxRecDepth 100000 in
set_option maxHeartbeats 12800000 in
theorem jn_p0 {x0 x1 x2 x3 x4 x5 x6 x7 x8 x9 x10 x11 x12 x13 x14 x15 x16 x17 x18 x19 x20 x21 x22 x23 x24 x25 x26 x27 x28 x29 x30 x31 x32 x33 x34 x35 x36 x37 x38 x39 x40 x41 x42 x43 x44 x45 x46 x47 x48 x49 x50 x51 x52 x53 x54 x55 x56 x57 x58 x59 x60 x61 x62 x63 x64 x65 x66 x67 x68 x69 x70 x71 x72 x73 x74 x75 x76 x77 x78 x79 x80 x81 x82 x83 x84 x85 x86 x87 x88 x89 x90 x91 x92 x93 x94 : Value} {Q : Exit → Act → World → Prop} {W : World} 
    (hN : Q .normal ⟨#[x0, x1, .pointer (some ⟨W.heap.size, 0, none⟩), .int .i64 0, x4, x5, x6, x7, x8, x9, x10, x11, x12, x13, x14, x15, x16, x17, x18, x19, x20, x21, x22, x23, x24, x25, x26, x27, x28, x29, x30, x31, x32, x33, x34, x35, x36, x37, x38, x39, x40, x41, x42, x43, x44, x45, x46, x47, x48, x49, x50, x51, x52, x53, x54, x55, x56, x57, x58, x59, x60, x61, x62, x63, x64, x65, x66, x67, x68, x69, x70, x71, x72, x73, x74, x75, x76, x77, x78, x79, x80, x81, x82, x83, x84, x85, x86, x87, x88, x89, x90, x91, x92, x93, x94], []⟩ (W.alloc (.cells TV.none.cells 25))) :
    Code.wp Try.prog ((Try.f19.body.bind (pcAt 0)).getD .skip) Q ⟨#[x0, x1, x2, x3, x4, x5, x6, x7, x8, x9, x10, x11, x12, x13, x14, x15, x16, x17, x18, x19, x20, x21, x22, x23, x24, x25, x26, x27, x28, x29, x30, x31, x32, x33, x34, x35, x36, x37, x38, x39, x40, x41, x42, x43, x44, x45, x46, x47, x48, x49, x50, x51, x52, x53, x54, x55, x56, x57, x58, x59, x60, x61, x62, x63, x64, x65, x66, x67, x68, x69, x70, x71, x72, x73, x74, x75, x76, x77, x78, x79, x80, x81, x82, x83, x84, x85, x86, x87, x88, x89, x90, x91, x92, x93, x94], []⟩ W := by
  conv => arg 2; whnf
  have HN : Hid (Q .normal ⟨#[x0, x1, .pointer (some ⟨W.heap.size, 0, none⟩), .int .i64 0, x4, x5, x6, x7, x8, x9, x10, x11, x12, x13, x14, x15, x16, x17, x18, x19, x20, x21, x22, x23, x24, x25, x26, x27, x28, x29, x30, x31, x32, x33, x34, x35, x36, x37, x38, x39, x40, x41, x42, x43, x44, x45, x46, x47, x48, x49, x50, x51, x52, x53, x54, x55, x56, x57, x58, x59, x60, x61, x62, x63, x64, x65, x66, x67, x68, x69, x70, x71, x72, x73, x74, x75, x76, x77, x78, x79, x80, x81, x82, x83, x84, x85, x86, x87, x88, x89, x90, x91, x92, x93, x94], []⟩ (W.alloc (.cells TV.none.cells 25))) := hN
  clear hN
  go_wp2_with fail
  exact HN.out   

set_option maxRecDepth 100000 in
set_option maxHeartbeats 12800000 in
theorem jn_p1 {x1 x3 x4 x5 x6 x7 x8 x9 x10 x11 x12 x13 x14 x15 x16 x17 x18 x19 x20 x21 x22 x23 x24 x25 x26 x27 x28 x29 x30 x31 x32 x33 x34 x35 x36 x37 x38 x39 x40 x41 x42 x43 x44 x45 x46 x47 x48 x49 x50 x51 x52 x53 x54 x55 x56 x57 x58 x59 x60 x61 x62 x63 x64 x65 x66 x67 x68 x69 x70 x71 x72 x73 x74 x75 x76 x77 x78 x79 x80 x81 x82 x83 x84 x85 x86 x87 x88 x89 x90 x91 x92 x93 x94 : Value} {Q : Exit → Act → World → Prop} {W : World} {R l c : Nat} {a : Option Addr} (hr : TVar W R TV.none)
    (hN : ∀ (y3 y10 y11 y12 y13 y14 y15 y16 y17 y18 : Value), FewL l → Q .normal ⟨#[.slice a l c, x1, .pointer (some ⟨R, 0, none⟩), y3, x4, x5, x6, x7, x8, x9, y10, y11, y12, y13, y14, y15, y16, y17, y18, x19, x20, x21, x22, x23, x24, x25, x26, x27, x28, x29, x30, x31, x32, x33, x34, x35, x36, x37, x38, x39, x40, x41, x42, x43, x44, x45, x46, x47, x48, x49, x50, x51, x52, x53, x54, x55, x56, x57, x58, x59, x60, x61, x62, x63, x64, x65, x66, x67, x68, x69, x70, x71, x72, x73, x74, x75, x76, x77, x78, x79, x80, x81, x82, x83, x84, x85, x86, x87, x88, x89, x90, x91, x92, x93, x94], []⟩ W)
    (hR : ∀ (y10 y11 y12 y13 y14 y15 y16 y17 y18 : Value), ¬ FewL l → Q .ret ⟨#[.slice a l c, x1, .pointer (some ⟨R, 0, none⟩), .int .i64 1, x4, x5, x6, x7, x8, x9, y10, y11, y12, y13, y14, y15, y16, y17, y18, x19, x20, x21, x22, x23, x24, x25, x26, x27, x28, x29, x30, x31, x32, x33, x34, x35, x36, x37, x38, x39, x40, x41, x42, x43, x44, x45, x46, x47, x48, x49, x50, x51, x52, x53, x54, x55, x56, x57, x58, x59, x60, x61, x62, x63, x64, x65, x66, x67, x68, x69, x70, x71, x72, x73, x74, x75, x76, x77, x78, x79, x80, x81, x82, x83, x84, x85, x86, x87, x88, x89, x90, x91, x92, x93, x94], []⟩ (((W.setCell ⟨R, 0, none⟩ (.slice none 0 0)).setCell ⟨R, 1, none⟩ (.slice none 0 0)).setCell ⟨R, 2, none⟩ (.slice none 0 0))) :
    Code.wp Try.prog ((Try.f19.body.bind (pcAt 1)).getD .skip) Q ⟨#[.slice a l c, x1, .pointer (some ⟨R, 0, none⟩), x3, x4, x5, x6, x7, x8, x9, x10, x11, x12, x13, x14, x15, x16, x17, x18, x19, x20, x21, x22, x23, x24, x25, x26, x27, x28, x29, x30, x31, x32, x33, x34, x35, x36, x37, x38, x39, x40, x41, x42, x43, x44, x45, x46, x47, x48, x49, x50, x51, x52, x53, x54, x55, x56, x57, x58, x59, x60, x61, x62, x63, x64, x65, x66, x67, x68, x69, x70, x71, x72, x73, x74, x75, x76, x77, x78, x79, x80, x81, x82, x83, x84, x85, x86, x87, x88, x89, x90, x91, x92, x93, x94], []⟩ W := by
  conv => arg 2; whnf
  have HN : Hid (∀ (y3 y10 y11 y12 y13 y14 y15 y16 y17 y18 : Value), FewL l → Q .normal ⟨#[.slice a l c, x1, .pointer (some ⟨R, 0, none⟩), y3, x4, x5, x6, x7, x8, x9, y10, y11, y12, y13, y14, y15, y16, y17, y18, x19, x20, x21, x22, x23, x24, x25, x26, x27, x28, x29, x30, x31, x32, x33, x34, x35, x36, x37, x38, x39, x40, x41, x42, x43, x44, x45, x46, x47, x48, x49, x50, x51, x52, x53, x54, x55, x56, x57, x58, x59, x60, x61, x62, x63, x64, x65, x66, x67, x68, x69, x70, x71, x72, x73, x74, x75, x76, x77, x78, x79, x80, x81, x82, x83, x84, x85, x86, x87, x88, x89, x90, x91, x92, x93, x94], []⟩ W) := hN
  have HR : Hid (∀ (y10 y11 y12 y13 y14 y15 y16 y17 y18 : Value), ¬ FewL l → Q .ret ⟨#[.slice a l c, x1, .pointer (some ⟨R, 0, none⟩), .int .i64 1, x4, x5, x6, x7, x8, x9, y10, y11, y12, y13, y14, y15, y16, y17, y18, x19, x20, x21, x22, x23, x24, x25, x26, x27, x28, x29, x30, x31, x32, x33, x34, x35, x36, x37, x38, x39, x40, x41, x42, x43, x44, x45, x46, x47, x48, x49, x50, x51, x52, x53, x54, x55, x56, x57, x58, x59, x60, x61, x62, x63, x64, x65, x66, x67, x68, x69, x70, x71, x72, x73, x74, x75, x76, x77, x78, x79, x80, x81, x82, x83, x84, x85, x86, x87, x88, x89, x90, x91, x92, x93, x94], []⟩ (((W.setCell ⟨R, 0, none⟩ (.slice none 0 0)).setCell ⟨R, 1, none⟩ (.slice none 0 0)).setCell ⟨R, 2, none⟩ (.slice none 0 0))) := hR
  clear hN hR
  obtain ⟨r0, r1, r2, fz⟩ := hr.cells
  have f0 := fz 0
  have f1 := fz 1
  have f2 := fz 2
  unfold TV.none at r0 r1 r2
  clear fz hr
  by_cases h1 : l = 0
  · have d1 : ((l : Int) == 0) = true := by simp [h1]
    have HX : Hid (¬ FewL l) := fun e => e.1 h1
    clear HN
    subst h1
    go_wp2_with fail
    exact HR.out  _ _ _ _ _ _ _ _ _ HX.out
  have d1 : ((l : Int) == 0) = false := by simp [h1]
  by_cases h2 : 16 < l
  · have d2 : decide (16 < l) = true := decide_eq_true h2
    have d2i : decide ((16 : Int) < (l : Int)) = true := decide_eq_true (by omega)
    have HX : Hid (¬ FewL l) := fun e => by have := e.2; omega
    clear HN h1 h2
    go_wp2_with fail
    exact HR.out  _ _ _ _ _ _ _ _ _ HX.out
  · have d2 : decide (16 < l) = false := decide_eq_false h2
    have d2i : decide ((16 : Int) < (l : Int)) = false := decide_eq_false (by omega)
    have HX : Hid (FewL l) := ⟨h1, by omega⟩
    clear HR h1 h2
    go_wp2_with fail
    exact HN.out  _ _ _ _ _ _ _ _ _ _ HX.out

set_option maxRecDepth 100000 in
set_option maxHeartbeats 12800000 in
theorem jn_t4 {x1 x2 x3 x5 x6 x7 x8 x9 x10 x11 x12 x13 x14 x15 x16 x17 x18 x19 x20 x21 x22 x23 x24 x25 x26 x27 x28 x29 x30 x31 x32 x33 x34 x35 x36 x37 x38 x39 x40 x41 x42 x43 x44 x45 x46 x47 x48 x49 x50 x51 x52 x53 x54 x55 x56 x57 x58 x59 x60 x61 x62 x63 x64 x65 x66 x67 x68 x69 x70 x71 x72 x73 x74 x75 x76 x77 x78 x79 x80 x81 x82 x83 x84 x85 x86 x87 x88 x89 x90 x91 x92 x93 x94 : Value} {Q : Exit → Act → World → Prop} {W : World} {a : Option Addr} {l c i : Nat} (hi : i ≤ l)
    (hN : ∀ (y19 y20 y21 y22 : Value), i < l → Q .normal ⟨#[.slice a l c, x1, x2, x3, .int .i64 (i : Int), x5, x6, x7, x8, x9, x10, x11, x12, x13, x14, x15, x16, x17, x18, y19, y20, y21, y22, x23, x24, x25, x26, x27, x28, x29, x30, x31, x32, x33, x34, x35, x36, x37, x38, x39, x40, x41, x42, x43, x44, x45, x46, x47, x48, x49, x50, x51, x52, x53, x54, x55, x56, x57, x58, x59, x60, x61, x62, x63, x64, x65, x66, x67, x68, x69, x70, x71, x72, x73, x74, x75, x76, x77, x78, x79, x80, x81, x82, x83, x84, x85, x86, x87, x88, x89, x90, x91, x92, x93, x94], []⟩ W)
    (hE : ∀ (y19 y20 y21 y22 : Value), i = l → Q (.exit 0) ⟨#[.slice a l c, x1, x2, x3, .int .i64 (i : Int), x5, x6, x7, x8, x9, x10, x11, x12, x13, x14, x15, x16, x17, x18, y19, y20, y21, y22, x23, x24, x25, x26, x27, x28, x29, x30, x31, x32, x33, x34, x35, x36, x37, x38, x39, x40, x41, x42, x43, x44, x45, x46, x47, x48, x49, x50, x51, x52, x53, x54, x55, x56, x57, x58, x59, x60, x61, x62, x63, x64, x65, x66, x67, x68, x69, x70, x71, x72, x73, x74, x75, x76, x77, x78, x79, x80, x81, x82, x83, x84, x85, x86, x87, x88, x89, x90, x91, x92, x93, x94], []⟩ W) :
    Code.wp Try.prog (((Try.f19.body.bind (pcLoop 0)).bind (pcAt 4)).getD .skip) Q ⟨#[.slice a l c, x1, x2, x3, .int .i64 (i : Int), x5, x6, x7, x8, x9, x10, x11, x12, x13, x14, x15, x16, x17, x18, x19, x20, x21, x22, x23, x24, x25, x26, x27, x28, x29, x30, x31, x32, x33, x34, x35, x36, x37, x38, x39, x40, x41, x42, x43, x44, x45, x46, x47, x48, x49, x50, x51, x52, x53, x54, x55, x56, x57, x58, x59, x60, x61, x62, x63, x64, x65, x66, x67, x68, x69, x70, x71, x72, x73, x74, x75, x76, x77, x78, x79, x80, x81, x82, x83, x84, x85, x86, x87, x88, x89, x90, x91, x92, x93, x94], []⟩ W := by
  conv => arg 2; whnf
  have HN : Hid (∀ (y19 y20 y21 y22 : Value), i < l → Q .normal ⟨#[.slice a l c, x1, x2, x3, .int .i64 (i : Int), x5, x6, x7, x8, x9, x10, x11, x12, x13, x14, x15, x16, x17, x18, y19, y20, y21, y22, x23, x24, x25, x26, x27, x28, x29, x30, x31, x32, x33, x34, x35, x36, x37, x38, x39, x40, x41, x42, x43, x44, x45, x46, x47, x48, x49, x50, x51, x52, x53, x54, x55, x56, x57, x58, x59, x60, x61, x62, x63, x64, x65, x66, x67, x68, x69, x70, x71, x72, x73, x74, x75, x76, x77, x78, x79, x80, x81, x82, x83, x84, x85, x86, x87, x88, x89, x90, x91, x92, x93, x94], []⟩ W) := hN
  have HE : Hid (∀ (y19 y20 y21 y22 : Value), i = l → Q (.exit 0) ⟨#[.slice a l c, x1, x2, x3, .int .i64 (i : Int), x5, x6, x7, x8, x9, x10, x11, x12, x13, x14, x15, x16, x17, x18, y19, y20, y21, y22, x23, x24, x25, x26, x27, x28, x29, x30, x31, x32, x33, x34, x35, x36, x37, x38, x39, x40, x41, x42, x43, x44, x45, x46, x47, x48, x49, x50, x51, x52, x53, x54, x55, x56, x57, x58, x59, x60, x61, x62, x63, x64, x65, x66, x67, x68, x69, x70, x71, x72, x73, x74, x75, x76, x77, x78, x79, x80, x81, x82, x83, x84, x85, x86, x87, x88, x89, x90, x91, x92, x93, x94], []⟩ W) := hE
  clear hN hE
  by_cases hlt : i < l
  · have hlti : (i : Int) < (l : Int) := by omega
    clear HE
    go_wp2_with fail
    exact HN.out  _ _ _ _ hlt
  · have hlti : decide (i < l) = false := decide_eq_false hlt
    have HE2 : Hid (i = l) := by show _ = _; omega
    clear HN hi
    go_wp2_with fail
    exact HE.out  _ _ _ _ HE2.out

set_option maxRecDepth 100000 in
set_option maxHeartbeats 12800000 in
theorem jn_p5 {x0 x1 x2 x3 x5 x6 x7 x8 x9 x10 x11 x12 x13 x14 x15 x16 x17 x18 x19 x20 x21 x22 x23 x24 x25 x26 x27 x28 x29 x30 x31 x32 x33 x34 x35 x36 x37 x38 x39 x40 x41 x42 x43 x44 x45 x46 x47 x48 x49 x50 x51 x52 x53 x54 x55 x56 x57 x58 x59 x60 x61 x62 x63 x64 x65 x66 x67 x68 x69 x70 x71 x72 x73 x74 x75 x76 x77 x78 x79 x80 x81 x82 x83 x84 x85 x86 x87 x88 x89 x90 x91 x92 x93 x94 : Value} {Q : Exit → Act → World → Prop} {W : World} {i : Nat} (h : i < 9223372036854775807)
    (hN : ∀ (y23 y24 : Value), Q .normal ⟨#[x0, x1, x2, x3, .int .i64 ((i + 1 : Nat) : Int), x5, x6, x7, x8, x9, x10, x11, x12, x13, x14, x15, x16, x17, x18, x19, x20, x21, x22, y23, y24, x25, x26, x27, x28, x29, x30, x31, x32, x33, x34, x35, x36, x37, x38, x39, x40, x41, x42, x43, x44, x45, x46, x47, x48, x49, x50, x51, x52, x53, x54, x55, x56, x57, x58, x59, x60, x61, x62, x63, x64, x65, x66, x67, x68, x69, x70, x71, x72, x73, x74, x75, x76, x77, x78, x79, x80, x81, x82, x83, x84, x85, x86, x87, x88, x89, x90, x91, x92, x93, x94], []⟩ W) :
    Code.wp Try.prog (((Try.f19.body.bind (pcLoop 0)).bind (pcAt 5)).getD .skip) Q ⟨#[x0, x1, x2, x3, .int .i64 (i : Int), x5, x6, x7, x8, x9, x10, x11, x12, x13, x14, x15, x16, x17, x18, x19, x20, x21, x22, x23, x24, x25, x26, x27, x28, x29, x30, x31, x32, x33, x34, x35, x36, x37, x38, x39, x40, x41, x42, x43, x44, x45, x46, x47, x48, x49, x50, x51, x52, x53, x54, x55, x56, x57, x58, x59, x60, x61, x62, x63, x64, x65, x66, x67, x68, x69, x70, x71, x72, x73, x74, x75, x76, x77, x78, x79, x80, x81, x82, x83, x84, x85, x86, x87, x88, x89, x90, x91, x92, x93, x94], []⟩ W := by
  conv => arg 2; whnf
  have HN : Hid (∀ (y23 y24 : Value), Q .normal ⟨#[x0, x1, x2, x3, .int .i64 ((i + 1 : Nat) : Int), x5, x6, x7, x8, x9, x10, x11, x12, x13, x14, x15, x16, x17, x18, x19, x20, x21, x22, y23, y24, x25, x26, x27, x28, x29, x30, x31, x32, x33, x34, x35, x36, x37, x38, x39, x40, x41, x42, x43, x44, x45, x46, x47, x48, x49, x50, x51, x52, x53, x54, x55, x56, x57, x58, x59, x60, x61, x62, x63, x64, x65, x66, x67, x68, x69, x70, x71, x72, x73, x74, x75, x76, x77, x78, x79, x80, x81, x82, x83, x84, x85, x86, x87, x88, x89, x90, x91, x92, x93, x94], []⟩ W) := hN
  clear hN
  have e : ((i + 1 : Nat) : Int) = (i : Int) + 1 := by omega
  rw [e] at HN
  go_wp2_with fail
  exact HN.out  _ _ 

set_option maxRecDepth 100000 in
set_option maxHeartbeats 12800000 in
theorem jn_p6 {x1 x2 x3 x5 x6 x7 x8 x9 x10 x11 x12 x13 x14 x15 x16 x17 x18 x19 x20 x21 x22 x23 x24 x25 x26 x27 x28 x29 x30 x31 x32 x33 x34 x35 x36 x37 x38 x39 x40 x41 x42 x43 x44 x45 x46 x47 x48 x49 x50 x51 x52 x53 x54 x55 x56 x57 x58 x59 x60 x61 x62 x63 x64 x65 x66 x67 x68 x69 x70 x71 x72 x73 x74 x75 x76 x77 x78 x79 x80 x81 x82 x83 x84 x85 x86 x87 x88 x89 x90 x91 x92 x93 x94 : Value} {Q : Exit → Act → World → Prop} {W : World} {b off l c i : Nat} {v : TV} {t : Tab} (z0 : W.cell? ⟨b, off + i * 3, none⟩ = some (.slice v.p0 v.l0 v.c0)) (z1 : W.cell? ⟨b, off + i * 3 + 1, none⟩ = some (.slice v.p1 v.l1 v.c1)) (z2 : W.cell? ⟨b, off + i * 3 + 2, none⟩ = some (.slice v.p2 v.l2 v.c2)) (hi : i < l) (ht : TabAt W v t)
    (hN : ∀ (z : Bool) (wx : World) (y25 y26 y27 y28 y29 : Value), (z = true ↔ TabOk t) → Below W.heap.size W wx → Q .normal ⟨#[.slice (some ⟨b, off, none⟩) l c, x1, x2, x3, .int .i64 (i : Int), .bool z, x6, x7, x8, x9, x10, x11, x12, x13, x14, x15, x16, x17, x18, x19, x20, x21, x22, x23, x24, y25, y26, y27, y28, y29, x30, x31, x32, x33, x34, x35, x36, x37, x38, x39, x40, x41, x42, x43, x44, x45, x46, x47, x48, x49, x50, x51, x52, x53, x54, x55, x56, x57, x58, x59, x60, x61, x62, x63, x64, x65, x66, x67, x68, x69, x70, x71, x72, x73, x74, x75, x76, x77, x78, x79, x80, x81, x82, x83, x84, x85, x86, x87, x88, x89, x90, x91, x92, x93, x94], []⟩ wx) :
    Code.wp Try.prog (((Try.f19.body.bind (pcBlk 1)).bind (pcAt 6)).getD .skip) Q ⟨#[.slice (some ⟨b, off, none⟩) l c, x1, x2, x3, .int .i64 (i : Int), x5, x6, x7, x8, x9, x10, x11, x12, x13, x14, x15, x16, x17, x18, x19, x20, x21, x22, x23, x24, x25, x26, x27, x28, x29, x30, x31, x32, x33, x34, x35, x36, x37, x38, x39, x40, x41, x42, x43, x44, x45, x46, x47, x48, x49, x50, x51, x52, x53, x54, x55, x56, x57, x58, x59, x60, x61, x62, x63, x64, x65, x66, x67, x68, x69, x70, x71, x72, x73, x74, x75, x76, x77, x78, x79, x80, x81, x82, x83, x84, x85, x86, x87, x88, x89, x90, x91, x92, x93, x94], []⟩ W := by
  conv => arg 2; whnf
  have HN : Hid (∀ (z : Bool) (wx : World) (y25 y26 y27 y28 y29 : Value), (z = true ↔ TabOk t) → Below W.heap.size W wx → Q .normal ⟨#[.slice (some ⟨b, off, none⟩) l c, x1, x2, x3, .int .i64 (i : Int), .bool z, x6, x7, x8, x9, x10, x11, x12, x13, x14, x15, x16, x17, x18, x19, x20, x21, x22, x23, x24, y25, y26, y27, y28, y29, x30, x31, x32, x33, x34, x35, x36, x37, x38, x39, x40, x41, x42, x43, x44, x45, x46, x47, x48, x49, x50, x51, x52, x53, x54, x55, x56, x57, x58, x59, x60, x61, x62, x63, x64, x65, x66, x67, x68, x69, x70, x71, x72, x73, x74, x75, x76, x77, x78, x79, x80, x81, x82, x83, x84, x85, x86, x87, x88, x89, x90, x91, x92, x93, x94], []⟩ wx) := hN
  clear hN
  have hi1 : (i : Int) < (l : Int) := by omega
  have hi0 : (0 : Int) ≤ (i : Int) := by omega
  have HC := (show Hid _ from r15right_any v t W ht)
  clear ht
  go_wp2_with fail
  refine Calls.mono HC.out ?_
  rintro e w2 ⟨z, rfl, hb, hbl⟩
  have HB : Hid ((z = true ↔ TabOk t) ∧ Below W.heap.size W w2) := ⟨hb, hbl⟩
  clear hb hbl HC z0 z1 z2
  go_wp2_with fail
  exact HN.out _ _ _ _ _ _ _ HB.out.1 HB.out.2

set_option maxRecDepth 100000 in
set_option maxHeartbeats 12800000 in
theorem jn_p7 {x1 x2 x3 x5 x6 x7 x8 x9 x10 x11 x12 x13 x14 x15 x16 x17 x18 x19 x20 x21 x22 x23 x24 x25 x26 x27 x28 x29 x30 x31 x32 x33 x34 x35 x36 x37 x38 x39 x40 x41 x42 x43 x44 x45 x46 x47 x48 x49 x50 x51 x52 x53 x54 x55 x56 x57 x58 x59 x60 x61 x62 x63 x64 x65 x66 x67 x68 x69 x70 x71 x72 x73 x74 x75 x76 x77 x78 x79 x80 x81 x82 x83 x84 x85 x86 x87 x88 x89 x90 x91 x92 x93 x94 : Value} {Q : Exit → Act → World → Prop} {W : World} {b off l c i n1 m1 n2 m2 : Nat} {q1 q2 : Option Addr} {xs ys : List Int} (z0 : W.cell? ⟨b, off + i * 3, none⟩ = some (.slice q1 n1 m1)) (y0 : W.cell? ⟨b, off, none⟩ = some (.slice q2 n2 m2)) (hi : i < l) (hx : Lsts W q1 n1 m1 xs) (hy : Lsts W q2 n2 m2 ys)
    (hN : ∀ (wx : World) (y30 y31 y32 y33 y34 y35 y36 y37 y38 y39 : Value), Below W.heap.size W wx → Q .normal ⟨#[.slice (some ⟨b, off, none⟩) l c, x1, x2, x3, .int .i64 (i : Int), x5, .bool (decide (xs = ys)), x7, x8, x9, x10, x11, x12, x13, x14, x15, x16, x17, x18, x19, x20, x21, x22, x23, x24, x25, x26, x27, x28, x29, y30, y31, y32, y33, y34, y35, y36, y37, y38, y39, x40, x41, x42, x43, x44, x45, x46, x47, x48, x49, x50, x51, x52, x53, x54, x55, x56, x57, x58, x59, x60, x61, x62, x63, x64, x65, x66, x67, x68, x69, x70, x71, x72, x73, x74, x75, x76, x77, x78, x79, x80, x81, x82, x83, x84, x85, x86, x87, x88, x89, x90, x91, x92, x93, x94], []⟩ wx) :
    Code.wp Try.prog (((Try.f19.body.bind (pcBlk 1)).bind (pcAt 7)).getD .skip) Q ⟨#[.slice (some ⟨b, off, none⟩) l c, x1, x2, x3, .int .i64 (i : Int), x5, x6, x7, x8, x9, x10, x11, x12, x13, x14, x15, x16, x17, x18, x19, x20, x21, x22, x23, x24, x25, x26, x27, x28, x29, x30, x31, x32, x33, x34, x35, x36, x37, x38, x39, x40, x41, x42, x43, x44, x45, x46, x47, x48, x49, x50, x51, x52, x53, x54, x55, x56, x57, x58, x59, x60, x61, x62, x63, x64, x65, x66, x67, x68, x69, x70, x71, x72, x73, x74, x75, x76, x77, x78, x79, x80, x81, x82, x83, x84, x85, x86, x87, x88, x89, x90, x91, x92, x93, x94], []⟩ W := by
  conv => arg 2; whnf
  have HN : Hid (∀ (wx : World) (y30 y31 y32 y33 y34 y35 y36 y37 y38 y39 : Value), Below W.heap.size W wx → Q .normal ⟨#[.slice (some ⟨b, off, none⟩) l c, x1, x2, x3, .int .i64 (i : Int), x5, .bool (decide (xs = ys)), x7, x8, x9, x10, x11, x12, x13, x14, x15, x16, x17, x18, x19, x20, x21, x22, x23, x24, x25, x26, x27, x28, x29, y30, y31, y32, y33, y34, y35, y36, y37, y38, y39, x40, x41, x42, x43, x44, x45, x46, x47, x48, x49, x50, x51, x52, x53, x54, x55, x56, x57, x58, x59, x60, x61, x62, x63, x64, x65, x66, x67, x68, x69, x70, x71, x72, x73, x74, x75, x76, x77, x78, x79, x80, x81, x82, x83, x84, x85, x86, x87, x88, x89, x90, x91, x92, x93, x94], []⟩ wx) := hN
  clear hN
  have hi1 : (i : Int) < (l : Int) := by omega
  have hi0 : (0 : Int) ≤ (i : Int) := by omega
  have hl0 : (0 : Int) < (l : Int) := by omega
  have HC : Hid (∀ wx : World, wx.heap = W.heap → wx.os = W.os → wx.tape = W.tape → wx.output = W.output → Calls Try.prog 14 #[.slice q1 n1 m1, .slice q2 n2 m2] wx fun e w' => e = .returned (.bool (decide (xs = ys))) ∧ Hid (Below W.heap.size W w')) := fun wx y1 y2 y3 y4 => by
    have hb : Below W.heap.size W wx := ⟨y2, y3, y4, by rw [y1]; exact Nat.le_refl _, fun _ _ => by rw [y1]⟩
    exact (r12si_any q1 q2 n1 m1 n2 m2 xs ys wx (hx.below hb) (hy.below hb)).mono fun e w' h => ⟨h.1, bthen hb h.2⟩
  clear hx hy hi
  obtain ⟨z, hz⟩ : ∃ z, z = decide (xs = ys) := ⟨_, rfl⟩
  rw [← hz] at HC HN
  clear hz
  refine wp_pcOnly ?_
  go_wp2_with fail
  go_region_with (first
    | (go_at_call 14; with_reducible refine Calls.mono (HC.out _ rfl rfl rfl rfl) ?_; rintro e w3 ⟨rfl, hZ⟩))
  all_goals
    clear HC z0 y0
    go_wp2_with fail
    exact HN.out _ _ _ _ _ _ _ _ _ _ _ hZ.out

set_option maxRecDepth 100000 in
set_option maxHeartbeats 12800000 in
theorem jn_p8 {x0 x1 x3 x4 x7 x8 x9 x10 x11 x12 x13 x14 x15 x16 x17 x18 x19 x20 x21 x22 x23 x24 x25 x26 x27 x28 x29 x30 x31 x32 x33 x34 x35 x36 x37 x38 x39 x40 x41 x42 x43 x44 x45 x46 x47 x48 x49 x50 x51 x52 x53 x54 x55 x56 x57 x58 x59 x60 x61 x62 x63 x64 x65 x66 x67 x68 x69 x70 x71 x72 x73 x74 x75 x76 x77 x78 x79 x80 x81 x82 x83 x84 x85 x86 x87 x88 x89 x90 x91 x92 x93 x94 : Value} {Q : Exit → Act → World → Prop} {W : World} {R : Nat} {z y : Bool} (hr : TVar W R TV.none)
    (hN : ∀ (y3 y40 y41 y42 y43 y44 y45 y46 : Value), z = true → y = true → Q .normal ⟨#[x0, x1, .pointer (some ⟨R, 0, none⟩), y3, x4, .bool z, .bool y, x7, x8, x9, x10, x11, x12, x13, x14, x15, x16, x17, x18, x19, x20, x21, x22, x23, x24, x25, x26, x27, x28, x29, x30, x31, x32, x33, x34, x35, x36, x37, x38, x39, y40, y41, y42, y43, y44, y45, y46, x47, x48, x49, x50, x51, x52, x53, x54, x55, x56, x57, x58, x59, x60, x61, x62, x63, x64, x65, x66, x67, x68, x69, x70, x71, x72, x73, x74, x75, x76, x77, x78, x79, x80, x81, x82, x83, x84, x85, x86, x87, x88, x89, x90, x91, x92, x93, x94], []⟩ W)
    (hR : ∀ (y40 y41 y42 y43 y44 y45 y46 : Value), ¬ (z = true ∧ y = true) → Q .ret ⟨#[x0, x1, .pointer (some ⟨R, 0, none⟩), .int .i64 20, x4, .bool z, .bool y, x7, x8, x9, x10, x11, x12, x13, x14, x15, x16, x17, x18, x19, x20, x21, x22, x23, x24, x25, x26, x27, x28, x29, x30, x31, x32, x33, x34, x35, x36, x37, x38, x39, y40, y41, y42, y43, y44, y45, y46, x47, x48, x49, x50, x51, x52, x53, x54, x55, x56, x57, x58, x59, x60, x61, x62, x63, x64, x65, x66, x67, x68, x69, x70, x71, x72, x73, x74, x75, x76, x77, x78, x79, x80, x81, x82, x83, x84, x85, x86, x87, x88, x89, x90, x91, x92, x93, x94], []⟩ (((W.setCell ⟨R, 0, none⟩ (.slice none 0 0)).setCell ⟨R, 1, none⟩ (.slice none 0 0)).setCell ⟨R, 2, none⟩ (.slice none 0 0))) :
    Code.wp Try.prog (((Try.f19.body.bind (pcBlk 1)).bind (pcFrom 8)).getD .skip) Q ⟨#[x0, x1, .pointer (some ⟨R, 0, none⟩), x3, x4, .bool z, .bool y, x7, x8, x9, x10, x11, x12, x13, x14, x15, x16, x17, x18, x19, x20, x21, x22, x23, x24, x25, x26, x27, x28, x29, x30, x31, x32, x33, x34, x35, x36, x37, x38, x39, x40, x41, x42, x43, x44, x45, x46, x47, x48, x49, x50, x51, x52, x53, x54, x55, x56, x57, x58, x59, x60, x61, x62, x63, x64, x65, x66, x67, x68, x69, x70, x71, x72, x73, x74, x75, x76, x77, x78, x79, x80, x81, x82, x83, x84, x85, x86, x87, x88, x89, x90, x91, x92, x93, x94], []⟩ W := by
  conv => arg 2; whnf
  have HN : Hid (∀ (y3 y40 y41 y42 y43 y44 y45 y46 : Value), z = true → y = true → Q .normal ⟨#[x0, x1, .pointer (some ⟨R, 0, none⟩), y3, x4, .bool z, .bool y, x7, x8, x9, x10, x11, x12, x13, x14, x15, x16, x17, x18, x19, x20, x21, x22, x23, x24, x25, x26, x27, x28, x29, x30, x31, x32, x33, x34, x35, x36, x37, x38, x39, y40, y41, y42, y43, y44, y45, y46, x47, x48, x49, x50, x51, x52, x53, x54, x55, x56, x57, x58, x59, x60, x61, x62, x63, x64, x65, x66, x67, x68, x69, x70, x71, x72, x73, x74, x75, x76, x77, x78, x79, x80, x81, x82, x83, x84, x85, x86, x87, x88, x89, x90, x91, x92, x93, x94], []⟩ W) := hN
  have HR : Hid (∀ (y40 y41 y42 y43 y44 y45 y46 : Value), ¬ (z = true ∧ y = true) → Q .ret ⟨#[x0, x1, .pointer (some ⟨R, 0, none⟩), .int .i64 20, x4, .bool z, .bool y, x7, x8, x9, x10, x11, x12, x13, x14, x15, x16, x17, x18, x19, x20, x21, x22, x23, x24, x25, x26, x27, x28, x29, x30, x31, x32, x33, x34, x35, x36, x37, x38, x39, y40, y41, y42, y43, y44, y45, y46, x47, x48, x49, x50, x51, x52, x53, x54, x55, x56, x57, x58, x59, x60, x61, x62, x63, x64, x65, x66, x67, x68, x69, x70, x71, x72, x73, x74, x75, x76, x77, x78, x79, x80, x81, x82, x83, x84, x85, x86, x87, x88, x89, x90, x91, x92, x93, x94], []⟩ (((W.setCell ⟨R, 0, none⟩ (.slice none 0 0)).setCell ⟨R, 1, none⟩ (.slice none 0 0)).setCell ⟨R, 2, none⟩ (.slice none 0 0))) := hR
  clear hN hR
  obtain ⟨r0, r1, r2, fz⟩ := hr.cells
  have f0 := fz 0
  have f1 := fz 1
  have f2 := fz 2
  unfold TV.none at r0 r1 r2
  clear fz hr
  cases z with
  | false =>
    clear HN
    go_wp2_with fail
    exact HR.out  _ _ _ _ _ _ _ (fun e => by cases e.1)
  | true =>
    cases y with
    | false =>
      clear HN
      go_wp2_with fail
      exact HR.out  _ _ _ _ _ _ _ (fun e => by cases e.2)
    | true =>
      clear HR
      go_wp2_with fail
      exact HN.out  _ _ _ _ _ _ _ _ (by trivial) (by trivial)

set_option maxRecDepth 100000 in
set_option maxHeartbeats 12800000 in
theorem jn_l0 {x1 x3 x4 x5 x6 x7 x8 x9 x10 x11 x12 x13 x14 x15 x16 x17 x18 x19 x20 x21 x22 x23 x24 x25 x26 x27 x28 x29 x30 x31 x32 x33 x34 x35 x36 x37 x38 x39 x40 x41 x42 x43 x44 x45 x46 x47 x48 x49 x50 x51 x52 x53 x54 x55 x56 x57 x58 x59 x60 x61 x62 x63 x64 x65 x66 x67 x68 x69 x70 x71 x72 x73 x74 x75 x76 x77 x78 x79 x80 x81 x82 x83 x84 x85 x86 x87 x88 x89 x90 x91 x92 x93 x94 : Value} {Q : Exit → Act → World → Prop} {w W : World} {R l c : Nat} {a : Option Addr} {ts : List Tab} (h : TRows w a l c ts) (hr : TVar W R TV.none) (hb : Below w.heap.size w W) (hl : 0 < l)
    (hN : ∀ (wx : World) (y3 y4 y5 y6 y19 y20 y21 y22 y23 y24 y25 y26 y27 y28 y29 y30 y31 y32 y33 y34 y35 y36 y37 y38 y39 y40 y41 y42 y43 y44 y45 y46 : Value), JoinOk ts → TVar wx R TV.none → Below w.heap.size w wx → Q .normal ⟨#[.slice a l c, x1, .pointer (some ⟨R, 0, none⟩), y3, y4, y5, y6, x7, x8, x9, x10, x11, x12, x13, x14, x15, x16, x17, x18, y19, y20, y21, y22, y23, y24, y25, y26, y27, y28, y29, y30, y31, y32, y33, y34, y35, y36, y37, y38, y39, y40, y41, y42, y43, y44, y45, y46, x47, x48, x49, x50, x51, x52, x53, x54, x55, x56, x57, x58, x59, x60, x61, x62, x63, x64, x65, x66, x67, x68, x69, x70, x71, x72, x73, x74, x75, x76, x77, x78, x79, x80, x81, x82, x83, x84, x85, x86, x87, x88, x89, x90, x91, x92, x93, x94], []⟩ wx)
    (hR : ∀ (wx : World) (y4 y5 y6 y19 y20 y21 y22 y23 y24 y25 y26 y27 y28 y29 y30 y31 y32 y33 y34 y35 y36 y37 y38 y39 y40 y41 y42 y43 y44 y45 y46 : Value), ¬ JoinOk ts → TVar wx R TV.none → Below w.heap.size w wx → Q .ret ⟨#[.slice a l c, x1, .pointer (some ⟨R, 0, none⟩), .int .i64 20, y4, y5, y6, x7, x8, x9, x10, x11, x12, x13, x14, x15, x16, x17, x18, y19, y20, y21, y22, y23, y24, y25, y26, y27, y28, y29, y30, y31, y32, y33, y34, y35, y36, y37, y38, y39, y40, y41, y42, y43, y44, y45, y46, x47, x48, x49, x50, x51, x52, x53, x54, x55, x56, x57, x58, x59, x60, x61, x62, x63, x64, x65, x66, x67, x68, x69, x70, x71, x72, x73, x74, x75, x76, x77, x78, x79, x80, x81, x82, x83, x84, x85, x86, x87, x88, x89, x90, x91, x92, x93, x94], []⟩ (((wx.setCell ⟨R, 0, none⟩ (.slice none 0 0)).setCell ⟨R, 1, none⟩ (.slice none 0 0)).setCell ⟨R, 2, none⟩ (.slice none 0 0))) :
    Code.wp Try.prog ((Try.f19.body.bind (pcAt 3)).getD .skip) Q ⟨#[.slice a l c, x1, .pointer (some ⟨R, 0, none⟩), x3, x4, x5, x6, x7, x8, x9, x10, x11, x12, x13, x14, x15, x16, x17, x18, x19, x20, x21, x22, x23, x24, x25, x26, x27, x28, x29, x30, x31, x32, x33, x34, x35, x36, x37, x38, x39, x40, x41, x42, x43, x44, x45, x46, x47, x48, x49, x50, x51, x52, x53, x54, x55, x56, x57, x58, x59, x60, x61, x62, x63, x64, x65, x66, x67, x68, x69, x70, x71, x72, x73, x74, x75, x76, x77, x78, x79, x80, x81, x82, x83, x84, x85, x86, x87, x88, x89, x90, x91, x92, x93, x94], []⟩ W := by
  conv => arg 2; whnf
  have HN : Hid (∀ (wx : World) (y3 y4 y5 y6 y19 y20 y21 y22 y23 y24 y25 y26 y27 y28 y29 y30 y31 y32 y33 y34 y35 y36 y37 y38 y39 y40 y41 y42 y43 y44 y45 y46 : Value), JoinOk ts → TVar wx R TV.none → Below w.heap.size w wx → Q .normal ⟨#[.slice a l c, x1, .pointer (some ⟨R, 0, none⟩), y3, y4, y5, y6, x7, x8, x9, x10, x11, x12, x13, x14, x15, x16, x17, x18, y19, y20, y21, y22, y23, y24, y25, y26, y27, y28, y29, y30, y31, y32, y33, y34, y35, y36, y37, y38, y39, y40, y41, y42, y43, y44, y45, y46, x47, x48, x49, x50, x51, x52, x53, x54, x55, x56, x57, x58, x59, x60, x61, x62, x63, x64, x65, x66, x67, x68, x69, x70, x71, x72, x73, x74, x75, x76, x77, x78, x79, x80, x81, x82, x83, x84, x85, x86, x87, x88, x89, x90, x91, x92, x93, x94], []⟩ wx) := hN
  have HR : Hid (∀ (wx : World) (y4 y5 y6 y19 y20 y21 y22 y23 y24 y25 y26 y27 y28 y29 y30 y31 y32 y33 y34 y35 y36 y37 y38 y39 y40 y41 y42 y43 y44 y45 y46 : Value), ¬ JoinOk ts → TVar wx R TV.none → Below w.heap.size w wx → Q .ret ⟨#[.slice a l c, x1, .pointer (some ⟨R, 0, none⟩), .int .i64 20, y4, y5, y6, x7, x8, x9, x10, x11, x12, x13, x14, x15, x16, x17, x18, y19, y20, y21, y22, y23, y24, y25, y26, y27, y28, y29, y30, y31, y32, y33, y34, y35, y36, y37, y38, y39, y40, y41, y42, y43, y44, y45, y46, x47, x48, x49, x50, x51, x52, x53, x54, x55, x56, x57, x58, x59, x60, x61, x62, x63, x64, x65, x66, x67, x68, x69, x70, x71, x72, x73, x74, x75, x76, x77, x78, x79, x80, x81, x82, x83, x84, x85, x86, x87, x88, x89, x90, x91, x92, x93, x94], []⟩ (((wx.setCell ⟨R, 0, none⟩ (.slice none 0 0)).setCell ⟨R, 1, none⟩ (.slice none 0 0)).setCell ⟨R, 2, none⟩ (.slice none 0 0))) := hR
  clear hN hR
  have hm := h.hmax
  have hc := h.hcap
  unfold maxLen at hm
  refine pcSeq (fun Q1 n1 r1 _ => ?_)
  go_wp2_with fail
  refine n1 _ _ (pcBlock (fun Q2 n2 e2 r2 => ?_))
  go_loopw [4] (fun v4 wr => ∃ i : Nat, v4 = .int .i64 (i : Int) ∧ i ≤ l ∧ (∀ j, j < i → TabOk (ts.getD j Tab.none) ∧ (ts.getD j Tab.none).ids = (ts.getD 0 Tab.none).ids) ∧ TVar wr R TV.none ∧ Below w.heap.size w wr) (fun v4 _ => l - (intOf v4).toNat)
  case atStart => exact ⟨0, rfl, Nat.zero_le _, fun j hj => absurd hj (by omega), hr, hb⟩
  case round =>
    clear hr hb
    obtain ⟨i, rfl, hi, hall, hr, hb⟩ := hrel
    refine pcSeq (fun Q3 n3 r3 e3 => jn_t4 hi ?_ ?_)
    · intros
      rename_i hlt
      refine n3 _ _ (pcSeq (fun Q4 n4 r4 e4 => pcBlock (fun Q5 n5 e5 r5 => ?_)))
      obtain ⟨b, off, v, rfl, ⟨z0, z1, z2⟩, ht⟩ := (h.below hb).at hlt
      refine pcSeq (fun Q6 n6 r6 e6 => jn_p6 z0 z1 z2 hlt ht ?_)
      intro z w1
      intros
      rename_i hz hb1
      have hb1w := bthen hb hb1
      obtain ⟨b', off', v, ea, ⟨z0, z1, z2⟩, ht⟩ := (h.below hb1w).at hlt
      cases ea
      obtain ⟨b', off', v', ea, ⟨y0, -, -⟩, ht0⟩ := (h.below hb1w).at hl
      cases ea
      rw [Nat.zero_mul, Nat.add_zero] at y0
      refine n6 _ _ (pcSeq (fun Q7 n7 r7 e7 => jn_p7 z0 y0 hlt ht.ids ht0.ids ?_))
      intro w2
      intros
      rename_i hb2
      have hr2 := (hr.below hb1).below hb2
      have hb2w := bthen hb1w hb2
      refine n7 _ _ (jn_p8 hr2 ?_ ?_)
      · intros
        rename_i g1 g2
        refine n5 _ _ (n4 _ _ (jn_p5 (by omega) ?_))
        intros
        dsimp only [Exit.then]
        go_roundw
        case rel => exact ⟨i + 1, by go_num, hlt, fun j hj => by
          by_cases e : j = i
          · rw [e]; exact ⟨hz.1 g1, of_decide_eq_true g2⟩
          · exact hall j (by omega), hr2, hb2w⟩
        case measure => simp [intOf]; omega
      · intros
        rename_i hno
        have hnj : ¬ JoinOk ts := fun q => hno ⟨hz.2 (q i (by rw [h.hlen]; exact hlt)).1, decide_eq_true (q i (by rw [h.hlen]; exact hlt)).2⟩
        exact r5 _ _ (r4 _ _ (r2 _ _ (HR.out _ _ _ _ _ _ _ _ _ _ _ _ _ _ _ _ _ _ _ _ _ _ _ _ _ _ _ _ _ _ _ _ hnj hr2 hb2w)))
    · intros
      rename_i he
      subst he
      have hj : JoinOk ts := fun j hj => hall j (by rw [← h.hlen]; exact hj)
      exact e3 _ _ _ (e2 _ _ (HN.out _ _ _ _ _ _ _ _ _ _ _ _ _ _ _ _ _ _ _ _ _ _ _ _ _ _ _ _ _ _ _ _ _ hj hr hb))

set_option maxRecDepth 100000 in
set_option maxHeartbeats 12800000 in
theorem jn_p10 {x1 x2 x3 x4 x5 x6 x7 x8 x9 x10 x11 x12 x13 x14 x15 x16 x17 x18 x19 x20 x21 x22 x23 x24 x25 x26 x27 x28 x29 x30 x31 x32 x33 x34 x35 x36 x37 x38 x39 x40 x41 x42 x43 x44 x45 x46 x47 x48 x49 x50 x51 x52 x53 x54 x55 x56 x57 x58 x59 x60 x61 x62 x63 x64 x65 x66 x67 x68 x69 x70 x71 x72 x73 x74 x75 x76 x77 x78 x79 x80 x81 x82 x83 x84 x85 x86 x87 x88 x89 x90 x91 x92 x93 x94 : Value} {Q : Exit → Act → World → Prop} {W : World} {b off l c l0 k0 : Nat} {p0 : Option Addr} {xs : List Int} (y0 : W.cell? ⟨b, off, none⟩ = some (.slice p0 l0 k0)) (hl : 0 < l) (hL : Lsts W p0 l0 k0 xs) (h256 : l0 ≤ 256)
    (hN : ∀ (s : Nat) (q0 : Option Addr) (j0 : Nat) (wx : World) (y47 y48 y49 y50 y51 y52 y53 : Value), TVar wx s ⟨q0, l0, j0, none, 0, 0, none, 0, 0⟩ → Lsts wx q0 l0 j0 xs → (∀ ad, q0 = some ad → ad.block ≠ s) → W.heap.size ≤ s → Below W.heap.size W wx → Q .normal ⟨#[.slice (some ⟨b, off, none⟩) l c, x1, x2, x3, x4, x5, x6, .pointer (some ⟨s, 0, none⟩), x8, x9, x10, x11, x12, x13, x14, x15, x16, x17, x18, x19, x20, x21, x22, x23, x24, x25, x26, x27, x28, x29, x30, x31, x32, x33, x34, x35, x36, x37, x38, x39, x40, x41, x42, x43, x44, x45, x46, y47, y48, y49, y50, y51, y52, y53, x54, x55, x56, x57, x58, x59, x60, x61, x62, x63, x64, x65, x66, x67, x68, x69, x70, x71, x72, x73, x74, x75, x76, x77, x78, x79, x80, x81, x82, x83, x84, x85, x86, x87, x88, x89, x90, x91, x92, x93, x94], []⟩ wx) :
    Code.wp Try.prog ((Try.f19.body.bind (pcAt 10)).getD .skip) Q ⟨#[.slice (some ⟨b, off, none⟩) l c, x1, x2, x3, x4, x5, x6, x7, x8, x9, x10, x11, x12, x13, x14, x15, x16, x17, x18, x19, x20, x21, x22, x23, x24, x25, x26, x27, x28, x29, x30, x31, x32, x33, x34, x35, x36, x37, x38, x39, x40, x41, x42, x43, x44, x45, x46, x47, x48, x49, x50, x51, x52, x53, x54, x55, x56, x57, x58, x59, x60, x61, x62, x63, x64, x65, x66, x67, x68, x69, x70, x71, x72, x73, x74, x75, x76, x77, x78, x79, x80, x81, x82, x83, x84, x85, x86, x87, x88, x89, x90, x91, x92, x93, x94], []⟩ W := by
  conv => arg 2; whnf
  have HN : Hid (∀ (s : Nat) (q0 : Option Addr) (j0 : Nat) (wx : World) (y47 y48 y49 y50 y51 y52 y53 : Value), TVar wx s ⟨q0, l0, j0, none, 0, 0, none, 0, 0⟩ → Lsts wx q0 l0 j0 xs → (∀ ad, q0 = some ad → ad.block ≠ s) → W.heap.size ≤ s → Below W.heap.size W wx → Q .normal ⟨#[.slice (some ⟨b, off, none⟩) l c, x1, x2, x3, x4, x5, x6, .pointer (some ⟨s, 0, none⟩), x8, x9, x10, x11, x12, x13, x14, x15, x16, x17, x18, x19, x20, x21, x22, x23, x24, x25, x26, x27, x28, x29, x30, x31, x32, x33, x34, x35, x36, x37, x38, x39, x40, x41, x42, x43, x44, x45, x46, y47, y48, y49, y50, y51, y52, y53, x54, x55, x56, x57, x58, x59, x60, x61, x62, x63, x64, x65, x66, x67, x68, x69, x70, x71, x72, x73, x74, x75, x76, x77, x78, x79, x80, x81, x82, x83, x84, x85, x86, x87, x88, x89, x90, x91, x92, x93, x94], []⟩ wx) := hN
  clear hN
  have hl1 : (0 : Int) < (l : Int) := by omega
  have hb1 := balloc W (.cells #[] 3)
  have hO := IOwn.empty W
  have y0a := bkeep hb1 y0 rfl
  have hL1 := hL.below hb1
  have hs1 : W.heap.size ≤ (W.alloc (.cells #[] 3)).heap.size := hb1.size
  have HN5 : Hid (∀ v5 w5, IOwn w5 W.heap.size v5 ([] ++ xs) → (W.alloc (.cells #[] 3)).grownBy w5 (some W.heap.size) → ∃ q0 j0, v5 = .slice q0 l0 j0 ∧ TVar (w5.alloc (.cells (TV.cells ⟨q0, l0, j0, none, 0, 0, none, 0, 0⟩) 25)) w5.heap.size ⟨q0, l0, j0, none, 0, 0, none, 0, 0⟩ ∧ Lsts (w5.alloc (.cells (TV.cells ⟨q0, l0, j0, none, 0, 0, none, 0, 0⟩) 25)) q0 l0 j0 xs ∧ (∀ ad, q0 = some ad → ad.block ≠ w5.heap.size) ∧ W.heap.size ≤ w5.heap.size ∧ Below W.heap.size W (w5.alloc (.cells (TV.cells ⟨q0, l0, j0, none, 0, 0, none, 0, 0⟩) 25))) := fun v5 w5 h5 g5 => by
    have hlt := World.ownsRow.lt h5
    obtain ⟨q0, j0, rfl, hL5, -⟩ := h5.lsts (fun y hy => hL.word y (by simpa using hy))
    rw [List.nil_append, hL.hlen] at hL5
    have hbw : Below W.heap.size W w5 := hb1.trans ⟨g5.os, g5.tape, g5.output, g5.size, fun k hk => g5.block k (Nat.lt_of_lt_of_le hk hs1) (fun e => by cases e; exact Nat.lt_irrefl _ hk)⟩
    have hne : ∀ ad, q0 = some ad → ad.block ≠ w5.heap.size := fun ad e q => by
      subst e
      have := (hlt ad.block rfl).2
      omega
    rw [List.nil_append, hL.hlen]
    exact ⟨q0, j0, rfl, TVar.new w5 _, hL5.below (balloc _ _), hne, hbw.size, bthen hbw (balloc _ _)⟩
  clear hL y0
  go_wp2_with (at_builtin; refine wpList_appIs _ rfl _ _ rfl W.heap.size _ [] rfl hO p0 l0 k0 xs rfl hL1 (by simp; omega) hs1 ?_)
  intro v5 w5 h5 g5
  obtain ⟨q0, j0, rfl, k1, k2, k3, k4, k5⟩ := HN5.out v5 w5 h5 g5
  have HK := (show Hid _ from And.intro k1 (And.intro k2 (And.intro k3 (And.intro k4 k5))))
  clear h5 g5 HN5 hO hL1 hb1 y0a k1 k2 k3 k4 k5
  go_wp2_with fail
  exact HN.out _ _ _ _ _ _ _ _ _ _ _ HK.out.1 HK.out.2.1 HK.out.2.2.1 HK.out.2.2.2.1 HK.out.2.2.2.2

set_option maxRecDepth 100000 in
set_option maxHeartbeats 12800000 in
theorem jn_t12 {x1 x2 x3 x4 x5 x6 x7 x9 x10 x11 x12 x13 x14 x15 x16 x17 x18 x19 x20 x21 x22 x23 x24 x25 x26 x27 x28 x29 x30 x31 x32 x33 x34 x35 x36 x37 x38 x39 x40 x41 x42 x43 x44 x45 x46 x47 x48 x49 x50 x51 x52 x53 x54 x55 x56 x57 x58 x59 x60 x61 x62 x63 x64 x65 x66 x67 x68 x69 x70 x71 x72 x73 x74 x75 x76 x77 x78 x79 x80 x81 x82 x83 x84 x85 x86 x87 x88 x89 x90 x91 x92 x93 x94 : Value} {Q : Exit → Act → World → Prop} {W : World} {a : Option Addr} {l c i : Nat} (hi : i ≤ l)
    (hN : ∀ (y54 y55 y56 y57 : Value), i < l → Q .normal ⟨#[.slice a l c, x1, x2, x3, x4, x5, x6, x7, .int .i64 (i : Int), x9, x10, x11, x12, x13, x14, x15, x16, x17, x18, x19, x20, x21, x22, x23, x24, x25, x26, x27, x28, x29, x30, x31, x32, x33, x34, x35, x36, x37, x38, x39, x40, x41, x42, x43, x44, x45, x46, x47, x48, x49, x50, x51, x52, x53, y54, y55, y56, y57, x58, x59, x60, x61, x62, x63, x64, x65, x66, x67, x68, x69, x70, x71, x72, x73, x74, x75, x76, x77, x78, x79, x80, x81, x82, x83, x84, x85, x86, x87, x88, x89, x90, x91, x92, x93, x94], []⟩ W)
    (hE : ∀ (y54 y55 y56 y57 : Value), i = l → Q (.exit 2) ⟨#[.slice a l c, x1, x2, x3, x4, x5, x6, x7, .int .i64 (i : Int), x9, x10, x11, x12, x13, x14, x15, x16, x17, x18, x19, x20, x21, x22, x23, x24, x25, x26, x27, x28, x29, x30, x31, x32, x33, x34, x35, x36, x37, x38, x39, x40, x41, x42, x43, x44, x45, x46, x47, x48, x49, x50, x51, x52, x53, y54, y55, y56, y57, x58, x59, x60, x61, x62, x63, x64, x65, x66, x67, x68, x69, x70, x71, x72, x73, x74, x75, x76, x77, x78, x79, x80, x81, x82, x83, x84, x85, x86, x87, x88, x89, x90, x91, x92, x93, x94], []⟩ W) :
    Code.wp Try.prog (((Try.f19.body.bind (pcLoop 2)).bind (pcAt 12)).getD .skip) Q ⟨#[.slice a l c, x1, x2, x3, x4, x5, x6, x7, .int .i64 (i : Int), x9, x10, x11, x12, x13, x14, x15, x16, x17, x18, x19, x20, x21, x22, x23, x24, x25, x26, x27, x28, x29, x30, x31, x32, x33, x34, x35, x36, x37, x38, x39, x40, x41, x42, x43, x44, x45, x46, x47, x48, x49, x50, x51, x52, x53, x54, x55, x56, x57, x58, x59, x60, x61, x62, x63, x64, x65, x66, x67, x68, x69, x70, x71, x72, x73, x74, x75, x76, x77, x78, x79, x80, x81, x82, x83, x84, x85, x86, x87, x88, x89, x90, x91, x92, x93, x94], []⟩ W := by
  conv => arg 2; whnf
  have HN : Hid (∀ (y54 y55 y56 y57 : Value), i < l → Q .normal ⟨#[.slice a l c, x1, x2, x3, x4, x5, x6, x7, .int .i64 (i : Int), x9, x10, x11, x12, x13, x14, x15, x16, x17, x18, x19, x20, x21, x22, x23, x24, x25, x26, x27, x28, x29, x30, x31, x32, x33, x34, x35, x36, x37, x38, x39, x40, x41, x42, x43, x44, x45, x46, x47, x48, x49, x50, x51, x52, x53, y54, y55, y56, y57, x58, x59, x60, x61, x62, x63, x64, x65, x66, x67, x68, x69, x70, x71, x72, x73, x74, x75, x76, x77, x78, x79, x80, x81, x82, x83, x84, x85, x86, x87, x88, x89, x90, x91, x92, x93, x94], []⟩ W) := hN
  have HE : Hid (∀ (y54 y55 y56 y57 : Value), i = l → Q (.exit 2) ⟨#[.slice a l c, x1, x2, x3, x4, x5, x6, x7, .int .i64 (i : Int), x9, x10, x11, x12, x13, x14, x15, x16, x17, x18, x19, x20, x21, x22, x23, x24, x25, x26, x27, x28, x29, x30, x31, x32, x33, x34, x35, x36, x37, x38, x39, x40, x41, x42, x43, x44, x45, x46, x47, x48, x49, x50, x51, x52, x53, y54, y55, y56, y57, x58, x59, x60, x61, x62, x63, x64, x65, x66, x67, x68, x69, x70, x71, x72, x73, x74, x75, x76, x77, x78, x79, x80, x81, x82, x83, x84, x85, x86, x87, x88, x89, x90, x91, x92, x93, x94], []⟩ W) := hE
  clear hN hE
  by_cases hlt : i < l
  · have hlti : (i : Int) < (l : Int) := by omega
    clear HE
    go_wp2_with fail
    exact HN.out  _ _ _ _ hlt
  · have hlti : decide (i < l) = false := decide_eq_false hlt
    have HE2 : Hid (i = l) := by show _ = _; omega
    clear HN hi
    go_wp2_with fail
    exact HE.out  _ _ _ _ HE2.out

set_option maxRecDepth 100000 in
set_option maxHeartbeats 12800000 in
theorem jn_p13 {x0 x1 x2 x3 x4 x5 x6 x7 x9 x10 x11 x12 x13 x14 x15 x16 x17 x18 x19 x20 x21 x22 x23 x24 x25 x26 x27 x28 x29 x30 x31 x32 x33 x34 x35 x36 x37 x38 x39 x40 x41 x42 x43 x44 x45 x46 x47 x48 x49 x50 x51 x52 x53 x54 x55 x56 x57 x58 x59 x60 x61 x62 x63 x64 x65 x66 x67 x68 x69 x70 x71 x72 x73 x74 x75 x76 x77 x78 x79 x80 x81 x82 x83 x84 x85 x86 x87 x88 x89 x90 x91 x92 x93 x94 : Value} {Q : Exit → Act → World → Prop} {W : World} {i : Nat} (h : i < 9223372036854775807)
    (hN : ∀ (y58 y59 : Value), Q .normal ⟨#[x0, x1, x2, x3, x4, x5, x6, x7, .int .i64 ((i + 1 : Nat) : Int), x9, x10, x11, x12, x13, x14, x15, x16, x17, x18, x19, x20, x21, x22, x23, x24, x25, x26, x27, x28, x29, x30, x31, x32, x33, x34, x35, x36, x37, x38, x39, x40, x41, x42, x43, x44, x45, x46, x47, x48, x49, x50, x51, x52, x53, x54, x55, x56, x57, y58, y59, x60, x61, x62, x63, x64, x65, x66, x67, x68, x69, x70, x71, x72, x73, x74, x75, x76, x77, x78, x79, x80, x81, x82, x83, x84, x85, x86, x87, x88, x89, x90, x91, x92, x93, x94], []⟩ W) :
    Code.wp Try.prog (((Try.f19.body.bind (pcLoop 2)).bind (pcAt 13)).getD .skip) Q ⟨#[x0, x1, x2, x3, x4, x5, x6, x7, .int .i64 (i : Int), x9, x10, x11, x12, x13, x14, x15, x16, x17, x18, x19, x20, x21, x22, x23, x24, x25, x26, x27, x28, x29, x30, x31, x32, x33, x34, x35, x36, x37, x38, x39, x40, x41, x42, x43, x44, x45, x46, x47, x48, x49, x50, x51, x52, x53, x54, x55, x56, x57, x58, x59, x60, x61, x62, x63, x64, x65, x66, x67, x68, x69, x70, x71, x72, x73, x74, x75, x76, x77, x78, x79, x80, x81, x82, x83, x84, x85, x86, x87, x88, x89, x90, x91, x92, x93, x94], []⟩ W := by
  conv => arg 2; whnf
  have HN : Hid (∀ (y58 y59 : Value), Q .normal ⟨#[x0, x1, x2, x3, x4, x5, x6, x7, .int .i64 ((i + 1 : Nat) : Int), x9, x10, x11, x12, x13, x14, x15, x16, x17, x18, x19, x20, x21, x22, x23, x24, x25, x26, x27, x28, x29, x30, x31, x32, x33, x34, x35, x36, x37, x38, x39, x40, x41, x42, x43, x44, x45, x46, x47, x48, x49, x50, x51, x52, x53, x54, x55, x56, x57, y58, y59, x60, x61, x62, x63, x64, x65, x66, x67, x68, x69, x70, x71, x72, x73, x74, x75, x76, x77, x78, x79, x80, x81, x82, x83, x84, x85, x86, x87, x88, x89, x90, x91, x92, x93, x94], []⟩ W) := hN
  clear hN
  have e : ((i + 1 : Nat) : Int) = (i : Int) + 1 := by omega
  rw [e] at HN
  go_wp2_with fail
  exact HN.out  _ _ 

set_option maxRecDepth 100000 in
set_option maxHeartbeats 12800000 in
theorem jn_p17 {x0 x1 x2 x3 x4 x5 x6 x7 x8 x10 x11 x12 x13 x14 x15 x16 x17 x18 x19 x20 x21 x22 x23 x24 x25 x26 x27 x28 x29 x30 x31 x32 x33 x34 x35 x36 x37 x38 x39 x40 x41 x42 x43 x44 x45 x46 x47 x48 x49 x50 x51 x52 x53 x54 x55 x56 x57 x58 x59 x60 x61 x62 x63 x64 x65 x66 x67 x68 x69 x70 x71 x72 x73 x74 x75 x76 x77 x78 x79 x80 x81 x82 x83 x84 x85 x86 x87 x88 x89 x90 x91 x92 x93 x94 : Value} {Q : Exit → Act → World → Prop} {W : World} {i : Nat} (h : i < 9223372036854775807)
    (hN : ∀ (y77 y78 : Value), Q .normal ⟨#[x0, x1, x2, x3, x4, x5, x6, x7, x8, .int .i64 ((i + 1 : Nat) : Int), x10, x11, x12, x13, x14, x15, x16, x17, x18, x19, x20, x21, x22, x23, x24, x25, x26, x27, x28, x29, x30, x31, x32, x33, x34, x35, x36, x37, x38, x39, x40, x41, x42, x43, x44, x45, x46, x47, x48, x49, x50, x51, x52, x53, x54, x55, x56, x57, x58, x59, x60, x61, x62, x63, x64, x65, x66, x67, x68, x69, x70, x71, x72, x73, x74, x75, x76, y77, y78, x79, x80, x81, x82, x83, x84, x85, x86, x87, x88, x89, x90, x91, x92, x93, x94], []⟩ W) :
    Code.wp Try.prog (((Try.f19.body.bind (pcLoop 4)).bind (pcAt 17)).getD .skip) Q ⟨#[x0, x1, x2, x3, x4, x5, x6, x7, x8, .int .i64 (i : Int), x10, x11, x12, x13, x14, x15, x16, x17, x18, x19, x20, x21, x22, x23, x24, x25, x26, x27, x28, x29, x30, x31, x32, x33, x34, x35, x36, x37, x38, x39, x40, x41, x42, x43, x44, x45, x46, x47, x48, x49, x50, x51, x52, x53, x54, x55, x56, x57, x58, x59, x60, x61, x62, x63, x64, x65, x66, x67, x68, x69, x70, x71, x72, x73, x74, x75, x76, x77, x78, x79, x80, x81, x82, x83, x84, x85, x86, x87, x88, x89, x90, x91, x92, x93, x94], []⟩ W := by
  conv => arg 2; whnf
  have HN : Hid (∀ (y77 y78 : Value), Q .normal ⟨#[x0, x1, x2, x3, x4, x5, x6, x7, x8, .int .i64 ((i + 1 : Nat) : Int), x10, x11, x12, x13, x14, x15, x16, x17, x18, x19, x20, x21, x22, x23, x24, x25, x26, x27, x28, x29, x30, x31, x32, x33, x34, x35, x36, x37, x38, x39, x40, x41, x42, x43, x44, x45, x46, x47, x48, x49, x50, x51, x52, x53, x54, x55, x56, x57, x58, x59, x60, x61, x62, x63, x64, x65, x66, x67, x68, x69, x70, x71, x72, x73, x74, x75, x76, y77, y78, x79, x80, x81, x82, x83, x84, x85, x86, x87, x88, x89, x90, x91, x92, x93, x94], []⟩ W) := hN
  clear hN
  have e : ((i + 1 : Nat) : Int) = (i : Int) + 1 := by omega
  rw [e] at HN
  go_wp2_with fail
  exact HN.out  _ _ 

end Go.Proofs.Ytaiikhbfnfcalaa

namespace Go.Proofs.Ytaiikhbfnfcalaa
open Go.RowKit

/-- A whole list is appended; where the row lies then. -/
theorem run_appIsAt (w : World) (ty : TypeId) {base : Nat} {v : Value} {xs : List Int} (h : IOwn w base v xs) {a : Option Addr} {l c : Nat} {ys : List Int} (hL : Lsts w a l c ys) (hn : xs.length + l < 1000000) (hbase : base ≤ w.heap.size) :
    ∃ v' w', (Builtin.append_ #[22, 22] ty #[v, .slice a l c]).run Try.prog w = .ok v' w' ∧ IOwn w' base v' (xs ++ ys) ∧ w.grownBy w' v.ownBlock ∧ (v'.ownBlock = v.ownBlock ∨ v'.ownBlock = some w.heap.size) := by
  obtain ⟨i0, hi, hz0, hz1, hz2⟩ := info_parts Try.infoI
  have hlen := hL.hlen
  cases a with
  | none =>
    have e : l = 0 := by
      rcases Nat.eq_zero_or_pos l with e | e
      · exact e
      · obtain ⟨b, off, q, _⟩ := hL.cells e
        cases q
    subst e
    have ey : ys = [] := List.eq_nil_of_length_eq_zero hlen
    subst ey
    have hrun := run_append_nil (P := Try.prog) (w := w) base 22 ty 3 i0 1 Try.underlying22 hi _ _ _ h c
    exact ⟨v, w, hrun, by rw [List.append_nil]; exact h, ⟨rfl, rfl, rfl, Nat.le_refl _, fun _ _ _ => rfl⟩, .inl rfl⟩
  | some ad =>
    obtain ⟨v', w', hr, h2, h3, _, h5⟩ := run_append_own_at (P := Try.prog) w base 22 ty 3 i0 (.int .i64 0) 1 8 Try.underlying22 hi hz0 hz1 hz2 rfl (by decide) v xs.length (xs.map (Value.int .i64)) h ad l c (ys.map (Value.int .i64)) (by simp [hlen]) (fun j u hj => by
      have hjl : j < l := by have := (List.getElem?_eq_some_iff.1 hj).1; simp at this; omega
      obtain ⟨b, off, q, hc⟩ := hL.cells (by omega)
      cases q
      rw [Addr.add_lit, hc j hjl, ← hj, List.getElem?_map, List.getElem?_eq_getElem (by omega)]
      simp [List.getD, List.getElem?_eq_getElem (show j < ys.length by omega)]) (fun u hu => by obtain ⟨z, -, rfl⟩ := List.mem_map.1 hu; rfl) (by unfold maxLen; omega) (by omega) hbase
    refine ⟨v', w', hr, ?_, h3, h5⟩
    unfold IOwn
    rw [List.length_append, List.map_append, hlen]
    exact h2
theorem step_appIsAt (w : World) {ops : Array Oper} {o : Oper} {a : Act} {K : Act → World → Prop} {Q : Exit → Act → World → Prop} {E : Prop} (hgd : o.guard = none) (s x : Operand)
    (ho : o.op = .call { callee := .builtin .append, args := #[s, x], argTypes := #[22, 22] })
    (base : Nat) (v : Value) (xs : List Int) (hs : a.eval s = v) (hown : IOwn w base v xs) (p : Option Addr) (l c : Nat) (ys : List Int) (hx : a.eval x = .slice p l c) (hL : Lsts w p l c ys) (hn : xs.length + l < 1000000) (hbase : base ≤ w.heap.size)
    (h : ∀ v' w', IOwn w' base v' (xs ++ ys) → w.grownBy w' v.ownBlock → (v'.ownBlock = v.ownBlock ∨ v'.ownBlock = some w.heap.size) → K (a.put o.dst v') w') : if Region.wanted o (yielded ops a.tmps) = true then Oper.wp Try.prog o a w K Q else E := by
  rw [if_pos (by simp [Region.wanted, hgd])]
  obtain ⟨v', w', hr, h2, h3, h4⟩ := run_appIsAt w o.type hown hL hn hbase
  unfold Oper.wp
  simp [execOp, ho, resolve, invoke, builtin, hs, hx, hr, Result.andThen]
  exact h v' w' h2 h3 h4
theorem own_int {W : World} {base q : Nat} {v : Value} {xs : List Int} (h : IOwn W base v xs) (e : v.ownBlock = some q) : ∃ cur, W.heap[q]? = some (.cells cur 3 (0, 0)) := by
  rcases h.2 with ⟨rfl, _⟩ | ⟨g, cap, cur, rfl, _, hg, _⟩
  · simp [Value.ownBlock] at e
  · simp [Value.ownBlock] at e
    subst e
    exact ⟨cur, hg⟩
theorem own_rows {Q : Nat → Prop} {W : World} {base q : Nat} {v : Value} {ns : List (List Int)} (h : LHd Q W base v ns) (e : v.ownBlock = some q) : ∃ cur, W.heap[q]? = some (.cells cur 22 (0, 0)) := by
  rcases h with ⟨rfl, _⟩ | ⟨b, cap, cur, rfl, _, hg, _⟩
  · simp [Value.ownBlock] at e
  · simp [Value.ownBlock] at e
    subst e
    exact ⟨cur, hg⟩
theorem int_rows {Q : Nat → Prop} {W : World} {b1 b2 q : Nat} {v u : Value} {xs : List Int} {ns : List (List Int)} (h : IOwn W b1 v xs) (k : LHd Q W b2 u ns) (e : v.ownBlock = some q) : u.ownBlock ≠ some q := fun e2 => by
  obtain ⟨c1, h1⟩ := own_int h e
  obtain ⟨c2, h2⟩ := own_rows k e2
  rw [h1] at h2
  cases h2
theorem int_var {W : World} {b1 g : Nat} {v : Value} {u : TV} {xs : List Int} (h : IOwn W b1 v xs) (k : TVar W g u) : v.ownBlock ≠ some g := fun e => by
  obtain ⟨c1, h1⟩ := own_int h e
  unfold TVar at k
  rw [h1] at k
  cases k
theorem rows_var {Q : Nat → Prop} {W : World} {b1 g : Nat} {v : Value} {u : TV} {ns : List (List Int)} (h : LHd Q W b1 v ns) (k : TVar W g u) : v.ownBlock ≠ some g := fun e => by
  obtain ⟨c1, h1⟩ := own_rows h e
  unfold TVar at k
  rw [h1] at k
  cases k
/-- Join, under way: the table that is made. -/
structure JoAt (X : World) (R s : Nat) (q0 : Option Addr) (l0 j0 : Nat) (u : TV) (bs : List Int) (cs : List (List Int)) (W : World) : Prop where
  r : TVar W R TV.none
  var : TVar W s u
  u0 : u.p0 = q0 ∧ u.l0 = l0 ∧ u.c0 = j0
  bins : IOwn W X.heap.size (.slice u.p1 u.l1 u.c1) bs
  cols : LHd (fun b => some b ≠ (Value.slice u.p1 u.l1 u.c1).ownBlock ∧ b ≠ s ∧ b < W.heap.size) W X.heap.size (.slice u.p2 u.l2 u.c2) cs
  only : Only (fun b => b = s) X W
  low : s < X.heap.size ∧ R ≠ s
theorem JoAt.grow {X : World} {R s : Nat} {q0 : Option Addr} {l0 j0 : Nat} {u : TV} {bs : List Int} {cs : List (List Int)} {W W' : World} (h : JoAt X R s q0 l0 j0 u bs cs W) (hb : Below W.heap.size W W') : JoAt X R s q0 l0 j0 u bs cs W' :=
  ⟨h.r.below hb, h.var.below hb, h.u0, World.ownsRow.kept h.bins (grown_of_below hb none) (by cases e : (Value.slice u.p1 u.l1 u.c1).ownBlock with | none => exact .inl rfl | some _ => exact .inr (by simp)), h.cols.only (Only.of_below (T := fun _ => False) hb) (fun _ _ e => e) (fun b q => ⟨fun e => e, q.1, q.2.1, Nat.lt_of_lt_of_le q.2.2 hb.size⟩), h.only.trans (Only.of_below (T := fun _ => False) hb) (fun _ e => e.elim), h.low⟩
/-- The bins of one more table. -/
theorem JoAt.more {X : World} {R s : Nat} {q0 : Option Addr} {l0 j0 : Nat} {u : TV} {bs bs' : List Int} {cs : List (List Int)} {W w5 : World} (h : JoAt X R s q0 l0 j0 u bs cs W) {a5 : Option Addr} {l5 c5 : Nat} (hO : IOwn w5 X.heap.size (.slice a5 l5 c5) bs') (hg : W.grownBy w5 (Value.slice u.p1 u.l1 u.c1).ownBlock) (hq : (Value.slice a5 l5 c5).ownBlock = (Value.slice u.p1 u.l1 u.c1).ownBlock ∨ (Value.slice a5 l5 c5).ownBlock = some W.heap.size) : JoAt X R s q0 l0 j0 ⟨u.p0, u.l0, u.c0, a5, l5, c5, u.p2, u.l2, u.c2⟩ bs' cs (w5.setCell ⟨s, 1, none⟩ (.slice a5 l5 c5)) := by
  have hnr := int_var h.bins h.r
  have hns := int_var h.bins h.var
  have o1 : Only (fun b => (Value.slice u.p1 u.l1 u.c1).ownBlock = some b) W w5 := Only.of_grown hg (fun b e => e)
  have v5 : TVar w5 s u := (hg.block s h.var.lt (fun e => hns e.symm)).trans h.var
  have r5 : TVar w5 R TV.none := (hg.block R h.r.lt (fun e => hnr e.symm)).trans h.r
  have o2 : Only (fun b => b = s) w5 (w5.setCell ⟨s, 1, none⟩ (.slice a5 l5 c5)) := set_only
  have hsW := h.var.lt
  have hXW := h.only.size
  refine ⟨(o2.block R r5.lt h.low.2).trans r5, ?_, h.u0, hO.kept (grown_set w5 s 1 _) (.inr (int_var hO v5)), ?_, ?_, h.low⟩
  · have k1 := heap_setCell_same w5 s 1 _ _ (.slice a5 l5 c5) v5
    exact k1
  · refine (h.cols.only (Q' := fun b => some b ≠ (Value.slice a5 l5 c5).ownBlock ∧ b ≠ s ∧ b < w5.heap.size) o1 (fun b e q => int_rows h.bins h.cols q e) (fun b q => ⟨fun e => q.1 e.symm, fun e => ?_, q.2.1, Nat.lt_of_lt_of_le q.2.2 hg.size⟩)).only o2 (fun b e q => ?_) (fun b q => ⟨q.2.1, q.1, q.2.1, by simpa using q.2.2⟩)
    · rcases hq with r | r
      · exact q.1 (e.trans r)
      · rw [r] at e
        cases e
        exact Nat.lt_irrefl _ q.2.2
    · subst q
      exact rows_var h.cols h.var e
  · exact (h.only.trans o1 (fun b e => .inr (World.ownsRow.lt h.bins b e).1)).trans o2 (fun b e => .inl e)
/-- One more column. -/
theorem JoAt.col {X : World} {R s : Nat} {q0 : Option Addr} {l0 j0 : Nat} {u : TV} {bs : List Int} {cs cs' : List (List Int)} {W w6 : World} (h : JoAt X R s q0 l0 j0 u bs cs W) {a6 : Option Addr} {l6 c6 : Nat} (hC : LHd (fun b => (some b ≠ (Value.slice u.p1 u.l1 u.c1).ownBlock ∧ b ≠ s ∧ b < W.heap.size) ∨ (W.heap.size ≤ b ∧ b < w6.heap.size)) w6 X.heap.size (.slice a6 l6 c6) cs') (hg : Only (fun b => (Value.slice u.p2 u.l2 u.c2).ownBlock = some b) W w6) : JoAt X R s q0 l0 j0 ⟨u.p0, u.l0, u.c0, u.p1, u.l1, u.c1, a6, l6, c6⟩ bs cs' (w6.setCell ⟨s, 2, none⟩ (.slice a6 l6 c6)) := by
  have hnr := rows_var h.cols h.r
  have hns := rows_var h.cols h.var
  have v5 : TVar w6 s u := (hg.block s h.var.lt (fun e => hns e)).trans h.var
  have r5 : TVar w6 R TV.none := (hg.block R h.r.lt (fun e => hnr e)).trans h.r
  have o2 : Only (fun b => b = s) w6 (w6.setCell ⟨s, 2, none⟩ (.slice a6 l6 c6)) := set_only
  have hXW := h.only.size
  have hsX := h.low.1
  have hbl : ∀ b, (Value.slice u.p1 u.l1 u.c1).ownBlock = some b → b < W.heap.size := fun b e => (World.ownsRow.lt h.bins b e).2
  have hb6 : IOwn w6 X.heap.size (.slice u.p1 u.l1 u.c1) bs := by
    obtain ⟨h1, h2⟩ := h.bins
    refine ⟨h1, ?_⟩
    rcases h2 with r | ⟨g, cap, cur, e, hb, hgq, hnc, hcm, hcs, htk⟩
    · exact .inl r
    · refine .inr ⟨g, cap, cur, e, hb, (hg.block g (Array.getElem?_eq_some_iff.1 hgq).1 (fun q => ?_)).trans hgq, hnc, hcm, hcs, htk⟩
      exact int_rows h.bins h.cols (by rw [e]; rfl) q
  refine ⟨(o2.block R r5.lt h.low.2).trans r5, ?_, h.u0, hb6.kept (grown_set w6 s 2 _) (.inr (int_var hb6 v5)), ?_, ?_, h.low⟩
  · exact heap_setCell_same w6 s 2 _ _ (.slice a6 l6 c6) v5
  · refine hC.only o2 (fun b e q => ?_) (fun b q => ?_)
    · subst q
      exact rows_var hC v5 e
    · rcases q with ⟨q1, q2, q3⟩ | ⟨q1, q2⟩
      · exact ⟨q2, q1, q2, by have := hg.size; simp; omega⟩
      · refine ⟨by omega, fun e => ?_, by omega, by simpa using q2⟩
        have := hbl b e.symm
        omega
  · exact (h.only.trans hg (fun b e => .inr (h.cols.own b e).2.1)).trans o2 (fun b e => .inl e)
set_option maxRecDepth 100000 in
set_option maxHeartbeats 12800000 in
theorem jn_p14 {x1 x2 x3 x4 x5 x6 x9 x10 x11 x12 x13 x14 x15 x16 x17 x18 x19 x20 x21 x22 x23 x24 x25 x26 x27 x28 x29 x30 x31 x32 x33 x34 x35 x36 x37 x38 x39 x40 x41 x42 x43 x44 x45 x46 x47 x48 x49 x50 x51 x52 x53 x54 x55 x56 x57 x58 x59 x60 x61 x62 x63 x64 x65 x66 x67 x68 x69 x70 x71 x72 x73 x74 x75 x76 x77 x78 x79 x80 x81 x82 x83 x84 x85 x86 x87 x88 x89 x90 x91 x92 x93 x94 : Value} {Q : Exit → Act → World → Prop} {W : World} {b off l c i s n k base : Nat} {q : Option Addr} {u : TV} {bs ys : List Int} (z1 : W.cell? ⟨b, off + i * 3 + 1, none⟩ = some (.slice q n k)) (hi : i < l) (hv : TVar W s u) (hL : Lsts W q n k ys) (hO : IOwn W base (.slice u.p1 u.l1 u.c1) bs) (hn : bs.length + n < 1000000) (hbase : base ≤ W.heap.size)
    (hN : ∀ (a5 : Option Addr) (l5 c5 : Nat) (w5 : World) (y60 y61 y62 y63 y64 y65 y66 y67 y68 : Value), IOwn w5 base (.slice a5 l5 c5) (bs ++ ys) → W.grownBy w5 (Value.slice u.p1 u.l1 u.c1).ownBlock → ((Value.slice a5 l5 c5).ownBlock = (Value.slice u.p1 u.l1 u.c1).ownBlock ∨ (Value.slice a5 l5 c5).ownBlock = some W.heap.size) → Q .normal ⟨#[.slice (some ⟨b, off, none⟩) l c, x1, x2, x3, x4, x5, x6, .pointer (some ⟨s, 0, none⟩), .int .i64 (i : Int), x9, x10, x11, x12, x13, x14, x15, x16, x17, x18, x19, x20, x21, x22, x23, x24, x25, x26, x27, x28, x29, x30, x31, x32, x33, x34, x35, x36, x37, x38, x39, x40, x41, x42, x43, x44, x45, x46, x47, x48, x49, x50, x51, x52, x53, x54, x55, x56, x57, x58, x59, y60, y61, y62, y63, y64, y65, y66, y67, y68, x69, x70, x71, x72, x73, x74, x75, x76, x77, x78, x79, x80, x81, x82, x83, x84, x85, x86, x87, x88, x89, x90, x91, x92, x93, x94], []⟩ (w5.setCell ⟨s, 1, none⟩ (.slice a5 l5 c5))) :
    Code.wp Try.prog (((Try.f19.body.bind (pcBlk 3)).bind (pcAt 14)).getD .skip) Q ⟨#[.slice (some ⟨b, off, none⟩) l c, x1, x2, x3, x4, x5, x6, .pointer (some ⟨s, 0, none⟩), .int .i64 (i : Int), x9, x10, x11, x12, x13, x14, x15, x16, x17, x18, x19, x20, x21, x22, x23, x24, x25, x26, x27, x28, x29, x30, x31, x32, x33, x34, x35, x36, x37, x38, x39, x40, x41, x42, x43, x44, x45, x46, x47, x48, x49, x50, x51, x52, x53, x54, x55, x56, x57, x58, x59, x60, x61, x62, x63, x64, x65, x66, x67, x68, x69, x70, x71, x72, x73, x74, x75, x76, x77, x78, x79, x80, x81, x82, x83, x84, x85, x86, x87, x88, x89, x90, x91, x92, x93, x94], []⟩ W := by
  conv => arg 2; whnf
  have HN : Hid (∀ (a5 : Option Addr) (l5 c5 : Nat) (w5 : World) (y60 y61 y62 y63 y64 y65 y66 y67 y68 : Value), IOwn w5 base (.slice a5 l5 c5) (bs ++ ys) → W.grownBy w5 (Value.slice u.p1 u.l1 u.c1).ownBlock → ((Value.slice a5 l5 c5).ownBlock = (Value.slice u.p1 u.l1 u.c1).ownBlock ∨ (Value.slice a5 l5 c5).ownBlock = some W.heap.size) → Q .normal ⟨#[.slice (some ⟨b, off, none⟩) l c, x1, x2, x3, x4, x5, x6, .pointer (some ⟨s, 0, none⟩), .int .i64 (i : Int), x9, x10, x11, x12, x13, x14, x15, x16, x17, x18, x19, x20, x21, x22, x23, x24, x25, x26, x27, x28, x29, x30, x31, x32, x33, x34, x35, x36, x37, x38, x39, x40, x41, x42, x43, x44, x45, x46, x47, x48, x49, x50, x51, x52, x53, x54, x55, x56, x57, x58, x59, y60, y61, y62, y63, y64, y65, y66, y67, y68, x69, x70, x71, x72, x73, x74, x75, x76, x77, x78, x79, x80, x81, x82, x83, x84, x85, x86, x87, x88, x89, x90, x91, x92, x93, x94], []⟩ (w5.setCell ⟨s, 1, none⟩ (.slice a5 l5 c5))) := hN
  clear hN
  have hi1 : (i : Int) < (l : Int) := by omega
  have hi0 : (0 : Int) ≤ (i : Int) := by omega
  have c1 := hv.cells.2.1
  have HX : Hid (∀ v5 w5, IOwn w5 base v5 (bs ++ ys) → W.drew.grownBy w5 (Value.slice u.p1 u.l1 u.c1).ownBlock → (v5.ownBlock = (Value.slice u.p1 u.l1 u.c1).ownBlock ∨ v5.ownBlock = some W.drew.heap.size) → ∃ a5 l5 c5, v5 = .slice a5 l5 c5 ∧ Hid (IOwn w5 base (.slice a5 l5 c5) (bs ++ ys) ∧ W.grownBy w5 (Value.slice u.p1 u.l1 u.c1).ownBlock ∧ ((Value.slice a5 l5 c5).ownBlock = (Value.slice u.p1 u.l1 u.c1).ownBlock ∨ (Value.slice a5 l5 c5).ownBlock = some W.heap.size)) ∧ w5.cell? ⟨s, 1, none⟩ = some (.slice u.p1 u.l1 u.c1) ∧ w5.frozen? ⟨s, 1, none⟩ = false) := fun v5 w5 h5 g5 q5 => by
    obtain ⟨a5, c5, e⟩ : ∃ a5 c5, v5 = .slice a5 (bs ++ ys).length c5 := by
      rcases h5.2 with ⟨rfl, hn⟩ | ⟨g, cap, cur, rfl, _⟩
      · exact ⟨none, 0, by rw [hn]⟩
      · exact ⟨_, _, rfl⟩
    subst e
    have hv5 : TVar w5 s u := (g5.block s hv.lt (fun e => int_var hO hv e.symm)).trans hv
    exact ⟨a5, _, c5, rfl, ⟨h5, ⟨g5.os, g5.tape, g5.output, g5.size, g5.block⟩, q5⟩, hv5.cells.2.1, hv5.cells.2.2.2 1⟩
  have HO : Hid (IOwn W.drew base (.slice u.p1 u.l1 u.c1) bs) := hO
  have HL : Hid (Lsts W.drew q n k ys) := hL.below (below_drewN (Below.refl _ W) 1)
  have HZ : Hid (bs.length + n < 1000000 ∧ base ≤ W.drew.heap.size) := ⟨hn, hbase⟩
  clear hv hL hO hn hbase hi
  refine wp_pcOnly ?_
  go_wp2_with fail
  go_region_law (first
    | (refine step_appIsAt _ rfl (.tmp 61) (.tmp 66) rfl base _ bs (by rfl) HO.out q n k ys (by rfl) HL.out HZ.out.1 HZ.out.2 ?_; intro v5 w5 h5 g5 q5; obtain ⟨a5, l5, c5, rfl, hF, e1, e2⟩ := HX.out v5 w5 h5 g5 q5; clear h5 g5 q5)
    | fail)
  all_goals
    go_wp2_with fail
    first
      | exact HN.out _ _ _ _ _ _ _ _ _ _ _ _ _ hF.out.1 hF.out.2.1 hF.out.2.2
      | (obtain ⟨f1, f2, f3⟩ := (by assumption : Hid (IOwn _ base _ (bs ++ ys) ∧ _ ∧ _)).out; exact HN.out _ _ _ _ _ _ _ _ _ _ _ _ _ f1 f2 f3)

set_option maxRecDepth 100000 in
set_option maxHeartbeats 12800000 in
theorem jn_t16 {x1 x2 x3 x4 x5 x6 x7 x10 x11 x12 x13 x14 x15 x16 x17 x18 x19 x20 x21 x22 x23 x24 x25 x26 x27 x28 x29 x30 x31 x32 x33 x34 x35 x36 x37 x38 x39 x40 x41 x42 x43 x44 x45 x46 x47 x48 x49 x50 x51 x52 x53 x54 x55 x56 x57 x58 x59 x60 x61 x62 x63 x64 x65 x66 x67 x68 x69 x70 x71 x72 x73 x74 x75 x76 x77 x78 x79 x80 x81 x82 x83 x84 x85 x86 x87 x88 x89 x90 x91 x92 x93 x94 : Value} {Q : Exit → Act → World → Prop} {W : World} {b off l c i k n m : Nat} {q : Option Addr} (z2 : W.cell? ⟨b, off + i * 3 + 2, none⟩ = some (.slice q n m)) (hi : i < l) (hk : k ≤ n)
    (hN : ∀ (y69 y70 y71 y72 y73 y74 y75 y76 : Value), k < n → Q .normal ⟨#[.slice (some ⟨b, off, none⟩) l c, x1, x2, x3, x4, x5, x6, x7, .int .i64 (i : Int), .int .i64 (k : Int), x10, x11, x12, x13, x14, x15, x16, x17, x18, x19, x20, x21, x22, x23, x24, x25, x26, x27, x28, x29, x30, x31, x32, x33, x34, x35, x36, x37, x38, x39, x40, x41, x42, x43, x44, x45, x46, x47, x48, x49, x50, x51, x52, x53, x54, x55, x56, x57, x58, x59, x60, x61, x62, x63, x64, x65, x66, x67, x68, y69, y70, y71, y72, y73, y74, y75, y76, x77, x78, x79, x80, x81, x82, x83, x84, x85, x86, x87, x88, x89, x90, x91, x92, x93, x94], []⟩ W)
    (hE : ∀ (y69 y70 y71 y72 y73 y74 y75 y76 : Value), k = n → Q (.exit 4) ⟨#[.slice (some ⟨b, off, none⟩) l c, x1, x2, x3, x4, x5, x6, x7, .int .i64 (i : Int), .int .i64 (k : Int), x10, x11, x12, x13, x14, x15, x16, x17, x18, x19, x20, x21, x22, x23, x24, x25, x26, x27, x28, x29, x30, x31, x32, x33, x34, x35, x36, x37, x38, x39, x40, x41, x42, x43, x44, x45, x46, x47, x48, x49, x50, x51, x52, x53, x54, x55, x56, x57, x58, x59, x60, x61, x62, x63, x64, x65, x66, x67, x68, y69, y70, y71, y72, y73, y74, y75, y76, x77, x78, x79, x80, x81, x82, x83, x84, x85, x86, x87, x88, x89, x90, x91, x92, x93, x94], []⟩ W) :
    Code.wp Try.prog (((Try.f19.body.bind (pcLoop 4)).bind (pcAt 16)).getD .skip) Q ⟨#[.slice (some ⟨b, off, none⟩) l c, x1, x2, x3, x4, x5, x6, x7, .int .i64 (i : Int), .int .i64 (k : Int), x10, x11, x12, x13, x14, x15, x16, x17, x18, x19, x20, x21, x22, x23, x24, x25, x26, x27, x28, x29, x30, x31, x32, x33, x34, x35, x36, x37, x38, x39, x40, x41, x42, x43, x44, x45, x46, x47, x48, x49, x50, x51, x52, x53, x54, x55, x56, x57, x58, x59, x60, x61, x62, x63, x64, x65, x66, x67, x68, x69, x70, x71, x72, x73, x74, x75, x76, x77, x78, x79, x80, x81, x82, x83, x84, x85, x86, x87, x88, x89, x90, x91, x92, x93, x94], []⟩ W := by
  conv => arg 2; whnf
  have HN : Hid (∀ (y69 y70 y71 y72 y73 y74 y75 y76 : Value), k < n → Q .normal ⟨#[.slice (some ⟨b, off, none⟩) l c, x1, x2, x3, x4, x5, x6, x7, .int .i64 (i : Int), .int .i64 (k : Int), x10, x11, x12, x13, x14, x15, x16, x17, x18, x19, x20, x21, x22, x23, x24, x25, x26, x27, x28, x29, x30, x31, x32, x33, x34, x35, x36, x37, x38, x39, x40, x41, x42, x43, x44, x45, x46, x47, x48, x49, x50, x51, x52, x53, x54, x55, x56, x57, x58, x59, x60, x61, x62, x63, x64, x65, x66, x67, x68, y69, y70, y71, y72, y73, y74, y75, y76, x77, x78, x79, x80, x81, x82, x83, x84, x85, x86, x87, x88, x89, x90, x91, x92, x93, x94], []⟩ W) := hN
  have HE : Hid (∀ (y69 y70 y71 y72 y73 y74 y75 y76 : Value), k = n → Q (.exit 4) ⟨#[.slice (some ⟨b, off, none⟩) l c, x1, x2, x3, x4, x5, x6, x7, .int .i64 (i : Int), .int .i64 (k : Int), x10, x11, x12, x13, x14, x15, x16, x17, x18, x19, x20, x21, x22, x23, x24, x25, x26, x27, x28, x29, x30, x31, x32, x33, x34, x35, x36, x37, x38, x39, x40, x41, x42, x43, x44, x45, x46, x47, x48, x49, x50, x51, x52, x53, x54, x55, x56, x57, x58, x59, x60, x61, x62, x63, x64, x65, x66, x67, x68, y69, y70, y71, y72, y73, y74, y75, y76, x77, x78, x79, x80, x81, x82, x83, x84, x85, x86, x87, x88, x89, x90, x91, x92, x93, x94], []⟩ W) := hE
  clear hN hE
  have hi1 : (i : Int) < (l : Int) := by omega
  have hi0 : (0 : Int) ≤ (i : Int) := by omega
  by_cases hlt : k < n
  · have hlti : (k : Int) < (n : Int) := by omega
    clear HE
    go_wp2_with fail
    exact HN.out  _ _ _ _ _ _ _ _ hlt
  · have hlti : decide (k < n) = false := decide_eq_false hlt
    have HE2 : Hid (k = n) := by show _ = _; omega
    clear HN hk
    go_wp2_with fail
    exact HE.out  _ _ _ _ _ _ _ _ HE2.out

set_option maxRecDepth 100000 in
set_option maxHeartbeats 12800000 in
theorem jn_p19 {x0 x1 x3 x4 x5 x6 x8 x9 x10 x11 x12 x13 x14 x15 x16 x17 x18 x19 x20 x21 x22 x23 x24 x25 x26 x27 x28 x29 x30 x31 x32 x33 x34 x35 x36 x37 x38 x39 x40 x41 x42 x43 x44 x45 x46 x47 x48 x49 x50 x51 x52 x53 x54 x55 x56 x57 x58 x59 x60 x61 x62 x63 x64 x65 x66 x67 x68 x69 x70 x71 x72 x73 x74 x75 x76 x77 x78 x79 x80 x81 x82 x83 x84 x85 x86 x87 x88 x89 x90 x91 x92 x93 x94 : Value} {Q : Exit → Act → World → Prop} {W : World} {R s : Nat} {u : TV} (hr : TVar W R TV.none) (hv : TVar W s u)
    (hR : ∀ (y94 : Value), Q .ret ⟨#[x0, x1, .pointer (some ⟨R, 0, none⟩), .int .i64 0, x4, x5, x6, .pointer (some ⟨s, 0, none⟩), x8, x9, x10, x11, x12, x13, x14, x15, x16, x17, x18, x19, x20, x21, x22, x23, x24, x25, x26, x27, x28, x29, x30, x31, x32, x33, x34, x35, x36, x37, x38, x39, x40, x41, x42, x43, x44, x45, x46, x47, x48, x49, x50, x51, x52, x53, x54, x55, x56, x57, x58, x59, x60, x61, x62, x63, x64, x65, x66, x67, x68, x69, x70, x71, x72, x73, x74, x75, x76, x77, x78, x79, x80, x81, x82, x83, x84, x85, x86, x87, x88, x89, x90, x91, x92, x93, y94], []⟩ (((W.setCell ⟨R, 0, none⟩ (.slice u.p0 u.l0 u.c0)).setCell ⟨R, 1, none⟩ (.slice u.p1 u.l1 u.c1)).setCell ⟨R, 2, none⟩ (.slice u.p2 u.l2 u.c2))) :
    Code.wp Try.prog ((Try.f19.body.bind (pcFrom 19)).getD .skip) Q ⟨#[x0, x1, .pointer (some ⟨R, 0, none⟩), x3, x4, x5, x6, .pointer (some ⟨s, 0, none⟩), x8, x9, x10, x11, x12, x13, x14, x15, x16, x17, x18, x19, x20, x21, x22, x23, x24, x25, x26, x27, x28, x29, x30, x31, x32, x33, x34, x35, x36, x37, x38, x39, x40, x41, x42, x43, x44, x45, x46, x47, x48, x49, x50, x51, x52, x53, x54, x55, x56, x57, x58, x59, x60, x61, x62, x63, x64, x65, x66, x67, x68, x69, x70, x71, x72, x73, x74, x75, x76, x77, x78, x79, x80, x81, x82, x83, x84, x85, x86, x87, x88, x89, x90, x91, x92, x93, x94], []⟩ W := by
  conv => arg 2; whnf
  have HR : Hid (∀ (y94 : Value), Q .ret ⟨#[x0, x1, .pointer (some ⟨R, 0, none⟩), .int .i64 0, x4, x5, x6, .pointer (some ⟨s, 0, none⟩), x8, x9, x10, x11, x12, x13, x14, x15, x16, x17, x18, x19, x20, x21, x22, x23, x24, x25, x26, x27, x28, x29, x30, x31, x32, x33, x34, x35, x36, x37, x38, x39, x40, x41, x42, x43, x44, x45, x46, x47, x48, x49, x50, x51, x52, x53, x54, x55, x56, x57, x58, x59, x60, x61, x62, x63, x64, x65, x66, x67, x68, x69, x70, x71, x72, x73, x74, x75, x76, x77, x78, x79, x80, x81, x82, x83, x84, x85, x86, x87, x88, x89, x90, x91, x92, x93, y94], []⟩ (((W.setCell ⟨R, 0, none⟩ (.slice u.p0 u.l0 u.c0)).setCell ⟨R, 1, none⟩ (.slice u.p1 u.l1 u.c1)).setCell ⟨R, 2, none⟩ (.slice u.p2 u.l2 u.c2))) := hR
  clear hR
  obtain ⟨c0, c1, c2, -⟩ := hv.cells
  clear hv
  obtain ⟨r0, r1, r2, fz⟩ := hr.cells
  have f0 := fz 0
  have f1 := fz 1
  have f2 := fz 2
  unfold TV.none at r0 r1 r2
  clear fz hr
  go_wp2_with fail
  exact HR.out  _ 

end Go.Proofs.Ytaiikhbfnfcalaa

namespace Go.Proofs.Ytaiikhbfnfcalaa
open Go.RowKit

set_option maxRecDepth 100000 in
set_option maxHeartbeats 12800000 in
theorem jn_p18 {x1 x2 x3 x4 x5 x6 x10 x11 x12 x13 x14 x15 x16 x17 x18 x19 x20 x21 x22 x23 x24 x25 x26 x27 x28 x29 x30 x31 x32 x33 x34 x35 x36 x37 x38 x39 x40 x41 x42 x43 x44 x45 x46 x47 x48 x49 x50 x51 x52 x53 x54 x55 x56 x57 x58 x59 x60 x61 x62 x63 x64 x65 x66 x67 x68 x69 x70 x71 x72 x73 x74 x75 x76 x77 x78 x79 x80 x81 x82 x83 x84 x85 x86 x87 x88 x89 x90 x91 x92 x93 x94 : Value} {Q : Exit → Act → World → Prop} {W : World} {b off l c i k s bq oq n m r2 k2 base : Nat} {r : Option Addr} {u : TV} {cs : List (List Int)} {col : List Int} {Qp : Nat → Prop} (z2 : W.cell? ⟨b, off + i * 3 + 2, none⟩ = some (.slice (some ⟨bq, oq, none⟩) n m)) (mk : W.cell? ⟨bq, oq + k, none⟩ = some (.slice r r2 k2)) (hi : i < l) (hk : k < n) (hv : TVar W s u) (hL : Lsts W r r2 k2 col) (hr2 : r2 ≤ 256) (hC : LHd Qp W base (.slice u.p2 u.l2 u.c2) cs) (hcs : cs.length < 1000000) (hbase : base ≤ W.heap.size)
    (hN : ∀ (a6 : Option Addr) (l6 c6 : Nat) (w6 : World) (y79 y80 y81 y82 y83 y84 y85 y86 y87 y88 y89 y90 y91 y92 y93 : Value), LHd (fun b => Qp b ∨ (W.heap.size ≤ b ∧ b < w6.heap.size)) w6 base (.slice a6 l6 c6) (cs ++ [col]) → Only (fun b => (Value.slice u.p2 u.l2 u.c2).ownBlock = some b) W w6 → Q .normal ⟨#[.slice (some ⟨b, off, none⟩) l c, x1, x2, x3, x4, x5, x6, .pointer (some ⟨s, 0, none⟩), .int .i64 (i : Int), .int .i64 (k : Int), x10, x11, x12, x13, x14, x15, x16, x17, x18, x19, x20, x21, x22, x23, x24, x25, x26, x27, x28, x29, x30, x31, x32, x33, x34, x35, x36, x37, x38, x39, x40, x41, x42, x43, x44, x45, x46, x47, x48, x49, x50, x51, x52, x53, x54, x55, x56, x57, x58, x59, x60, x61, x62, x63, x64, x65, x66, x67, x68, x69, x70, x71, x72, x73, x74, x75, x76, x77, x78, y79, y80, y81, y82, y83, y84, y85, y86, y87, y88, y89, y90, y91, y92, y93, x94], []⟩ (w6.setCell ⟨s, 2, none⟩ (.slice a6 l6 c6))) :
    Code.wp Try.prog (((Try.f19.body.bind (pcBlk 5)).bind (pcFrom 18)).getD .skip) Q ⟨#[.slice (some ⟨b, off, none⟩) l c, x1, x2, x3, x4, x5, x6, .pointer (some ⟨s, 0, none⟩), .int .i64 (i : Int), .int .i64 (k : Int), x10, x11, x12, x13, x14, x15, x16, x17, x18, x19, x20, x21, x22, x23, x24, x25, x26, x27, x28, x29, x30, x31, x32, x33, x34, x35, x36, x37, x38, x39, x40, x41, x42, x43, x44, x45, x46, x47, x48, x49, x50, x51, x52, x53, x54, x55, x56, x57, x58, x59, x60, x61, x62, x63, x64, x65, x66, x67, x68, x69, x70, x71, x72, x73, x74, x75, x76, x77, x78, x79, x80, x81, x82, x83, x84, x85, x86, x87, x88, x89, x90, x91, x92, x93, x94], []⟩ W := by
  conv => arg 2; whnf
  have HN : Hid (∀ (a6 : Option Addr) (l6 c6 : Nat) (w6 : World) (y79 y80 y81 y82 y83 y84 y85 y86 y87 y88 y89 y90 y91 y92 y93 : Value), LHd (fun b => Qp b ∨ (W.heap.size ≤ b ∧ b < w6.heap.size)) w6 base (.slice a6 l6 c6) (cs ++ [col]) → Only (fun b => (Value.slice u.p2 u.l2 u.c2).ownBlock = some b) W w6 → Q .normal ⟨#[.slice (some ⟨b, off, none⟩) l c, x1, x2, x3, x4, x5, x6, .pointer (some ⟨s, 0, none⟩), .int .i64 (i : Int), .int .i64 (k : Int), x10, x11, x12, x13, x14, x15, x16, x17, x18, x19, x20, x21, x22, x23, x24, x25, x26, x27, x28, x29, x30, x31, x32, x33, x34, x35, x36, x37, x38, x39, x40, x41, x42, x43, x44, x45, x46, x47, x48, x49, x50, x51, x52, x53, x54, x55, x56, x57, x58, x59, x60, x61, x62, x63, x64, x65, x66, x67, x68, x69, x70, x71, x72, x73, x74, x75, x76, x77, x78, y79, y80, y81, y82, y83, y84, y85, y86, y87, y88, y89, y90, y91, y92, y93, x94], []⟩ (w6.setCell ⟨s, 2, none⟩ (.slice a6 l6 c6))) := hN
  clear hN
  have hi1 : (i : Int) < (l : Int) := by omega
  have hi0 : (0 : Int) ≤ (i : Int) := by omega
  have hk1 : (k : Int) < (n : Int) := by omega
  have hk0 : (0 : Int) ≤ (k : Int) := by omega
  have c2 := hv.cells.2.2.1
  have hbA : Below W.heap.size W (W.alloc (.cells #[] 3)) := balloc _ _
  have c2a := bkeep hbA c2 rfl
  have z2a := bkeep hbA z2 rfl
  have mka := bkeep hbA mk rfl
  have hb1 : Below W.heap.size W ((W.alloc (.cells #[] 3)).drew) := bthen hbA (below_drewN (Below.refl _ _) 1)
  have hs1 : ((W.alloc (.cells #[] 3)).drew).heap.size = W.heap.size + 1 := by
    show (W.heap.push _).size = _
    simp
  have HO : Hid (IOwn ((W.alloc (.cells #[] 3)).drew) W.heap.size (.slice (some ⟨W.heap.size, 0, none⟩) 0 0) []) := IOwn.empty W
  have HL : Hid (Lsts ((W.alloc (.cells #[] 3)).drew) r r2 k2 col) := hL.below hb1
  have HZ : Hid (([] : List Int).length + r2 < 1000000 ∧ W.heap.size ≤ ((W.alloc (.cells #[] 3)).drew).heap.size ∧ cs.length < 1000000) := ⟨by simp; omega, by rw [hs1]; exact Nat.le_succ _, hcs⟩
  have HX : Hid (∀ v5 w5, IOwn w5 W.heap.size v5 ([] ++ col) → ((W.alloc (.cells #[] 3)).drew).grownBy w5 (some W.heap.size) → ∃ a5 c5, v5 = .slice a5 r2 c5 ∧ (w5.cell? ⟨s, 2, none⟩ = some (.slice u.p2 u.l2 u.c2) ∧ (w5.alloc (.cells #[.slice a5 r2 c5] 22)).cell? ⟨s, 2, none⟩ = some (.slice u.p2 u.l2 u.c2) ∧ (w5.alloc (.cells #[.slice a5 r2 c5] 22)).cell? ⟨w5.heap.size, 0, none⟩ = some (.slice a5 r2 c5)) ∧ Hid (LE (fun b => Qp b ∨ (W.heap.size ≤ b ∧ b < w5.heap.size)) (w5.alloc (.cells #[.slice a5 r2 c5] 22)) a5 r2 c5 col ∧ LHd (fun b => Qp b ∨ (W.heap.size ≤ b ∧ b < w5.heap.size)) (w5.alloc (.cells #[.slice a5 r2 c5] 22)) base (.slice u.p2 u.l2 u.c2) cs ∧ base ≤ (w5.alloc (.cells #[.slice a5 r2 c5] 22)).heap.size ∧ Below W.heap.size W (w5.alloc (.cells #[.slice a5 r2 c5] 22)))) := fun v5 w5 h5 g5 => by
    have hlt := World.ownsRow.lt h5
    obtain ⟨a5, c5, rfl, hL5, -⟩ := h5.lsts (fun y hy => hL.word y (by simpa using hy))
    rw [List.nil_append, hL.hlen] at hL5
    have hbw : Below W.heap.size W w5 := hb1.trans ⟨g5.os, g5.tape, g5.output, g5.size, fun k hk => g5.block k (by rw [hs1]; omega) (fun e => by cases e; exact Nat.lt_irrefl _ hk)⟩
    have hba := balloc w5 (.cells #[.slice a5 r2 c5] 22)
    have hbz := bthen hbw hba
    rw [List.nil_append, hL.hlen]
    refine ⟨a5, c5, rfl, ⟨(hv.below hbw).cells.2.2.1, (hv.below hbz).cells.2.2.1, by simp⟩, ⟨hL5.below hba, fun ad e => .inr ?_⟩, ?_, Nat.le_trans hbase hbz.size, hbz⟩
    · subst e
      exact hlt ad.block rfl
    · exact hC.only (Only.of_below (T := fun _ => False) hbz) (fun _ _ e => e) (fun b q => ⟨fun e => e, .inl q⟩)
  have HY : Hid (∀ (w5 w6 : World) (a5 : Option Addr) (c5 : Nat) (v6 : Value), Hid (LE (fun b => Qp b ∨ (W.heap.size ≤ b ∧ b < w5.heap.size)) (w5.alloc (.cells #[.slice a5 r2 c5] 22)) a5 r2 c5 col ∧ LHd (fun b => Qp b ∨ (W.heap.size ≤ b ∧ b < w5.heap.size)) (w5.alloc (.cells #[.slice a5 r2 c5] 22)) base (.slice u.p2 u.l2 u.c2) cs ∧ base ≤ (w5.alloc (.cells #[.slice a5 r2 c5] 22)).heap.size ∧ Below W.heap.size W (w5.alloc (.cells #[.slice a5 r2 c5] 22))) → LHd (fun b => Qp b ∨ (W.heap.size ≤ b ∧ b < w5.heap.size)) w6 base v6 (cs ++ [col]) → (w5.alloc (.cells #[.slice a5 r2 c5] 22)).grownBy w6 (Value.slice u.p2 u.l2 u.c2).ownBlock → ∃ a6 l6 c6, v6 = .slice a6 l6 c6 ∧ (w6.cell? ⟨s, 2, none⟩ = some (.slice u.p2 u.l2 u.c2) ∧ w6.frozen? ⟨s, 2, none⟩ = false) ∧ Hid (LHd (fun b => Qp b ∨ (W.heap.size ≤ b ∧ b < w6.heap.size)) w6 base (.slice a6 l6 c6) (cs ++ [col]) ∧ Only (fun b => (Value.slice u.p2 u.l2 u.c2).ownBlock = some b) W w6)) := fun w5 w6 a5 c5 v6 hF h6 g6 => by
    obtain ⟨a6, c6, e, -⟩ := h6.row
    have hsz : w5.heap.size ≤ w6.heap.size := Nat.le_trans (balloc w5 _).size g6.size
    have hv6 : TVar w6 s u := (g6.block s (hv.below hF.out.2.2.2).lt (fun e => rows_var hC hv e.symm)).trans (hv.below hF.out.2.2.2)
    subst e
    exact ⟨a6, _, c6, rfl, ⟨hv6.cells.2.2.1, hv6.cells.2.2.2 2⟩, h6.only (Only.refl (fun _ => False) w6) (fun _ _ e => e) (fun b q => ⟨fun e => e, q.imp id (fun z => ⟨z.1, Nat.lt_of_lt_of_le z.2 hsz⟩)⟩), (Only.of_below hF.out.2.2.2).trans (Only.of_grown g6 (fun b e => e)) (fun b e => .inl e)⟩
  clear hv hL hr2 hC hcs hbase hi hk hbA hb1 hs1
  refine wp_pcOnly ?_
  go_wp2_with fail
  go_region_law (first
    | (refine step_appIs _ rfl (.tmp 81) (.tmp 89) rfl W.heap.size _ [] (by rfl) HO.out r r2 k2 col (by rfl) HL.out HZ.out.1 HZ.out.2.1 ?_; intro v5 w5 h5 g5; obtain ⟨a5, c5, rfl, ⟨e1, e2, e3⟩, hF⟩ := HX.out v5 w5 h5 g5; have hF1 : Hid _ := hF.out.1; have hF2 : Hid _ := hF.out.2.1; have hF3 : Hid _ := hF.out.2.2.1; clear h5 g5)
    | (refine step_appLH _ rfl (.tmp 80) (.tmp 91) 23 rfl Try.underlying23 base _ cs (by rfl) (Hid.out (by assumption)) _ _ r2 _ col (by rfl) (by assumption) (Hid.out (by assumption)) HZ.out.2.2 (Hid.out (by assumption)) ?_; intro v6 w6 h6 g6; obtain ⟨a6, l6, c6, rfl, ⟨e4, e5⟩, hG⟩ := HY.out _ w6 _ _ v6 (by assumption) h6 g6; clear h6 g6)
    | fail)
  all_goals
    go_wp2_with fail
    first
      | exact HN.out _ _ _ _ _ _ _ _ _ _ _ _ _ _ _ _ _ _ _ hG.out.1 hG.out.2
      | (obtain ⟨f1, f2⟩ := (by assumption : Hid (LHd _ _ base _ (cs ++ [col]) ∧ _)).out; exact HN.out _ _ _ _ _ _ _ _ _ _ _ _ _ _ _ _ _ _ _ f1 f2)

end Go.Proofs.Ytaiikhbfnfcalaa

namespace Go.Proofs.Ytaiikhbfnfcalaa
open Go.RowKit

theorem takeT {ts : List Tab} {i : Nat} (hi : i < ts.length) : ts.take (i + 1) = ts.take i ++ [ts.getD i Tab.none] := by
  rw [List.take_add_one]
  simp [List.getD, hi]
theorem takeC {L : List (List Int)} {k : Nat} (hk : k < L.length) : L.take (k + 1) = L.take k ++ [L.getD k []] := by
  rw [List.take_add_one]
  simp [List.getD, hk]

set_option maxRecDepth 100000 in
set_option maxHeartbeats 12800000 in
theorem jn_l4 {x1 x2 x3 x4 x5 x6 x9 x10 x11 x12 x13 x14 x15 x16 x17 x18 x19 x20 x21 x22 x23 x24 x25 x26 x27 x28 x29 x30 x31 x32 x33 x34 x35 x36 x37 x38 x39 x40 x41 x42 x43 x44 x45 x46 x47 x48 x49 x50 x51 x52 x53 x54 x55 x56 x57 x58 x59 x60 x61 x62 x63 x64 x65 x66 x67 x68 x69 x70 x71 x72 x73 x74 x75 x76 x77 x78 x79 x80 x81 x82 x83 x84 x85 x86 x87 x88 x89 x90 x91 x92 x93 x94 : Value} {Q : Exit → Act → World → Prop} {w X W : World} {R s b off l c i l0 j0 : Nat} {q0 : Option Addr} {ts : List Tab} {u : TV} {bs : List Int} {cs : List (List Int)} (h : TRows w (some ⟨b, off, none⟩) l c ts) (hi : i < l) (hw : ∀ W', Only (fun b => b = s) X W' → Below w.heap.size w W') (hJ : JoAt X R s q0 l0 j0 u bs cs W) (hok : TabOk (ts.getD i Tab.none)) (hcs : cs.length ≤ 1000)
    (hN : ∀ (u' : TV) (wx : World) (y9 y69 y70 y71 y72 y73 y74 y75 y76 y77 y78 y79 y80 y81 y82 y83 y84 y85 y86 y87 y88 y89 y90 y91 y92 y93 : Value), JoAt X R s q0 l0 j0 u' bs (cs ++ (ts.getD i Tab.none).cols) wx → Q .normal ⟨#[.slice (some ⟨b, off, none⟩) l c, x1, x2, x3, x4, x5, x6, .pointer (some ⟨s, 0, none⟩), .int .i64 (i : Int), y9, x10, x11, x12, x13, x14, x15, x16, x17, x18, x19, x20, x21, x22, x23, x24, x25, x26, x27, x28, x29, x30, x31, x32, x33, x34, x35, x36, x37, x38, x39, x40, x41, x42, x43, x44, x45, x46, x47, x48, x49, x50, x51, x52, x53, x54, x55, x56, x57, x58, x59, x60, x61, x62, x63, x64, x65, x66, x67, x68, y69, y70, y71, y72, y73, y74, y75, y76, y77, y78, y79, y80, y81, y82, y83, y84, y85, y86, y87, y88, y89, y90, y91, y92, y93, x94], []⟩ wx) :
    Code.wp Try.prog (((Try.f19.body.bind (pcBlk 3)).bind (pcFrom 15)).getD .skip) Q ⟨#[.slice (some ⟨b, off, none⟩) l c, x1, x2, x3, x4, x5, x6, .pointer (some ⟨s, 0, none⟩), .int .i64 (i : Int), x9, x10, x11, x12, x13, x14, x15, x16, x17, x18, x19, x20, x21, x22, x23, x24, x25, x26, x27, x28, x29, x30, x31, x32, x33, x34, x35, x36, x37, x38, x39, x40, x41, x42, x43, x44, x45, x46, x47, x48, x49, x50, x51, x52, x53, x54, x55, x56, x57, x58, x59, x60, x61, x62, x63, x64, x65, x66, x67, x68, x69, x70, x71, x72, x73, x74, x75, x76, x77, x78, x79, x80, x81, x82, x83, x84, x85, x86, x87, x88, x89, x90, x91, x92, x93, x94], []⟩ W := by
  conv => arg 2; whnf
  have HN : Hid (∀ (u' : TV) (wx : World) (y9 y69 y70 y71 y72 y73 y74 y75 y76 y77 y78 y79 y80 y81 y82 y83 y84 y85 y86 y87 y88 y89 y90 y91 y92 y93 : Value), JoAt X R s q0 l0 j0 u' bs (cs ++ (ts.getD i Tab.none).cols) wx → Q .normal ⟨#[.slice (some ⟨b, off, none⟩) l c, x1, x2, x3, x4, x5, x6, .pointer (some ⟨s, 0, none⟩), .int .i64 (i : Int), y9, x10, x11, x12, x13, x14, x15, x16, x17, x18, x19, x20, x21, x22, x23, x24, x25, x26, x27, x28, x29, x30, x31, x32, x33, x34, x35, x36, x37, x38, x39, x40, x41, x42, x43, x44, x45, x46, x47, x48, x49, x50, x51, x52, x53, x54, x55, x56, x57, x58, x59, x60, x61, x62, x63, x64, x65, x66, x67, x68, y69, y70, y71, y72, y73, y74, y75, y76, y77, y78, y79, y80, y81, y82, y83, y84, y85, y86, y87, y88, y89, y90, y91, y92, y93, x94], []⟩ wx) := hN
  clear hN
  have h16 := hok.few
  refine pcSeq (fun Q1 n1 r1 _ => ?_)
  go_wp2_with fail
  refine n1 _ _ (pcBlock (fun Q2 n2 e2 r2 => ?_))
  go_loopw [9] (fun v9 wr => ∃ (k : Nat) (u' : TV), v9 = .int .i64 (k : Int) ∧ k ≤ (ts.getD i Tab.none).cols.length ∧ JoAt X R s q0 l0 j0 u' bs (cs ++ (ts.getD i Tab.none).cols.take k) wr) (fun v9 _ => (ts.getD i Tab.none).cols.length - (intOf v9).toNat)
  case atStart => exact ⟨0, u, rfl, Nat.zero_le _, by rw [List.take_zero, List.append_nil]; exact hJ⟩
  case round =>
    clear hJ
    obtain ⟨k, u', rfl, hk, hJ⟩ := hrel
    obtain ⟨b', off', v, ea, ⟨z0, z1, z2⟩, ht⟩ := (h.below (hw _ hJ.only)).at hi
    cases ea
    have hcl := ht.cols.hlen
    refine pcSeq (fun Q3 n3 r3 e3 => jn_t16 z2 hi (by omega) ?_ ?_)
    · intros
      rename_i hlt
      have hkl : k < (ts.getD i Tab.none).cols.length := by omega
      refine n3 _ _ (pcSeq (fun Q4 n4 r4 e4 => pcBlock (fun Q5 n5 e5 r5 => ?_)))
      obtain ⟨bq, oq, r, rn, rk, q2, mk, hLk⟩ := ht.cols.at (i := k) hlt
      rw [q2] at z2
      have hc := hok.col k hkl
      have hf := hok.ids.few
      have hrn := hLk.hlen
      have hcl2 := hc.len
      refine jn_p18 z2 mk hi hlt hJ.var hLk (by omega) hJ.cols (by simp; omega) (by have := hJ.only.size; exact this) ?_
      intro a6 l6 c6 w6
      intros
      rename_i g1 g2
      have hJ2 := hJ.col g1 g2
      refine n5 _ _ (n4 _ _ (jn_p17 (by omega) ?_))
      intros
      dsimp only [Exit.then]
      go_roundw
      case rel => exact ⟨k + 1, _, by go_num, hkl, by rw [takeC hkl, ← List.append_assoc]; exact hJ2⟩
      case measure => simp only [intOf]; omega
    · intros
      rename_i he
      have he' : k = (ts.getD i Tab.none).cols.length := by omega
      subst he'
      rw [List.take_length] at hJ
      exact e3 _ _ _ (e2 _ _ (HN.out _ _ _ _ _ _ _ _ _ _ _ _ _ _ _ _ _ _ _ _ _ _ _ _ _ _ _ _ hJ))

set_option maxRecDepth 100000 in
set_option maxHeartbeats 12800000 in
theorem jn_l2 {x1 x2 x3 x4 x5 x6 x8 x9 x10 x11 x12 x13 x14 x15 x16 x17 x18 x19 x20 x21 x22 x23 x24 x25 x26 x27 x28 x29 x30 x31 x32 x33 x34 x35 x36 x37 x38 x39 x40 x41 x42 x43 x44 x45 x46 x47 x48 x49 x50 x51 x52 x53 x54 x55 x56 x57 x58 x59 x60 x61 x62 x63 x64 x65 x66 x67 x68 x69 x70 x71 x72 x73 x74 x75 x76 x77 x78 x79 x80 x81 x82 x83 x84 x85 x86 x87 x88 x89 x90 x91 x92 x93 x94 : Value} {Q : Exit → Act → World → Prop} {w X W : World} {R s b off l c l0 j0 : Nat} {q0 : Option Addr} {ts : List Tab} {u : TV} (h : TRows w (some ⟨b, off, none⟩) l c ts) (h16 : l ≤ 16) (hw : ∀ W', Only (fun b => b = s) X W' → Below w.heap.size w W') (hJ : JoAt X R s q0 l0 j0 u [] [] W) (hok : JoinOk ts)
    (hN : ∀ (u' : TV) (wx : World) (y8 y9 y54 y55 y56 y57 y58 y59 y60 y61 y62 y63 y64 y65 y66 y67 y68 y69 y70 y71 y72 y73 y74 y75 y76 y77 y78 y79 y80 y81 y82 y83 y84 y85 y86 y87 y88 y89 y90 y91 y92 y93 : Value), JoAt X R s q0 l0 j0 u' (ts.flatMap (·.bins)) (ts.flatMap (·.cols)) wx → Q .normal ⟨#[.slice (some ⟨b, off, none⟩) l c, x1, x2, x3, x4, x5, x6, .pointer (some ⟨s, 0, none⟩), y8, y9, x10, x11, x12, x13, x14, x15, x16, x17, x18, x19, x20, x21, x22, x23, x24, x25, x26, x27, x28, x29, x30, x31, x32, x33, x34, x35, x36, x37, x38, x39, x40, x41, x42, x43, x44, x45, x46, x47, x48, x49, x50, x51, x52, x53, y54, y55, y56, y57, y58, y59, y60, y61, y62, y63, y64, y65, y66, y67, y68, y69, y70, y71, y72, y73, y74, y75, y76, y77, y78, y79, y80, y81, y82, y83, y84, y85, y86, y87, y88, y89, y90, y91, y92, y93, x94], []⟩ wx) :
    Code.wp Try.prog ((Try.f19.body.bind (pcAt 11)).getD .skip) Q ⟨#[.slice (some ⟨b, off, none⟩) l c, x1, x2, x3, x4, x5, x6, .pointer (some ⟨s, 0, none⟩), x8, x9, x10, x11, x12, x13, x14, x15, x16, x17, x18, x19, x20, x21, x22, x23, x24, x25, x26, x27, x28, x29, x30, x31, x32, x33, x34, x35, x36, x37, x38, x39, x40, x41, x42, x43, x44, x45, x46, x47, x48, x49, x50, x51, x52, x53, x54, x55, x56, x57, x58, x59, x60, x61, x62, x63, x64, x65, x66, x67, x68, x69, x70, x71, x72, x73, x74, x75, x76, x77, x78, x79, x80, x81, x82, x83, x84, x85, x86, x87, x88, x89, x90, x91, x92, x93, x94], []⟩ W := by
  conv => arg 2; whnf
  have HN : Hid (∀ (u' : TV) (wx : World) (y8 y9 y54 y55 y56 y57 y58 y59 y60 y61 y62 y63 y64 y65 y66 y67 y68 y69 y70 y71 y72 y73 y74 y75 y76 y77 y78 y79 y80 y81 y82 y83 y84 y85 y86 y87 y88 y89 y90 y91 y92 y93 : Value), JoAt X R s q0 l0 j0 u' (ts.flatMap (·.bins)) (ts.flatMap (·.cols)) wx → Q .normal ⟨#[.slice (some ⟨b, off, none⟩) l c, x1, x2, x3, x4, x5, x6, .pointer (some ⟨s, 0, none⟩), y8, y9, x10, x11, x12, x13, x14, x15, x16, x17, x18, x19, x20, x21, x22, x23, x24, x25, x26, x27, x28, x29, x30, x31, x32, x33, x34, x35, x36, x37, x38, x39, x40, x41, x42, x43, x44, x45, x46, x47, x48, x49, x50, x51, x52, x53, y54, y55, y56, y57, y58, y59, y60, y61, y62, y63, y64, y65, y66, y67, y68, y69, y70, y71, y72, y73, y74, y75, y76, y77, y78, y79, y80, y81, y82, y83, y84, y85, y86, y87, y88, y89, y90, y91, y92, y93, x94], []⟩ wx) := hN
  clear hN
  have hlen := h.hlen
  refine pcSeq (fun Q1 n1 r1 _ => ?_)
  go_wp2_with fail
  refine n1 _ _ (pcBlock (fun Q2 n2 e2 r2 => ?_))
  go_loopw [8] (fun v8 wr => ∃ (i : Nat) (u' : TV), v8 = .int .i64 (i : Int) ∧ i ≤ l ∧ JoAt X R s q0 l0 j0 u' ((ts.take i).flatMap (·.bins)) ((ts.take i).flatMap (·.cols)) wr ∧ ((ts.take i).flatMap (·.bins)).length ≤ i * 16 ∧ ((ts.take i).flatMap (·.cols)).length ≤ i * 16) (fun v8 _ => l - (intOf v8).toNat)
  case atStart => exact ⟨0, u, rfl, Nat.zero_le _, hJ, Nat.zero_le _, Nat.zero_le _⟩
  case round =>
    clear hJ
    obtain ⟨i, u', rfl, hi, hJ, hbl, hcl⟩ := hrel
    refine pcSeq (fun Q3 n3 r3 e3 => jn_t12 hi ?_ ?_)
    · intros
      rename_i hlt
      have hil : i < ts.length := by omega
      obtain ⟨hti, -⟩ := hok i hil
      have hlb := hti.len
      have hl16 := hti.few
      refine n3 _ _ (pcSeq (fun Q4 n4 r4 e4 => pcBlock (fun Q5 n5 e5 r5 => ?_)))
      obtain ⟨b', off', v, ea, ⟨z0, z1, z2⟩, ht⟩ := (h.below (hw _ hJ.only)).at hlt
      cases ea
      have hvl := ht.bins.hlen
      refine pcSeq (fun Q6 n6 r6 e6 => jn_p14 z1 hlt hJ.var ht.bins hJ.bins (by omega) hJ.only.size ?_)
      intro a5 l5 c5 w5
      intros
      rename_i g1 g2 g3
      have hJ2 := hJ.more g1 g2 g3
      refine n6 _ _ (jn_l4 h hlt hw hJ2 hti (by omega) ?_)
      intro u2 wx
      intros
      rename_i hJ3
      refine n5 _ _ (n4 _ _ (jn_p13 (by omega) ?_))
      intros
      dsimp only [Exit.then]
      go_roundw
      case rel =>
        refine ⟨i + 1, u2, by go_num, hlt, ?_, ?_, ?_⟩
        · rw [takeT hil, List.flatMap_append, List.flatMap_append]
          simpa using hJ3
        · have e : ([ts.getD i Tab.none].flatMap (·.bins)).length = (ts.getD i Tab.none).bins.length := by simp
          rw [takeT hil, List.flatMap_append, List.length_append, e]
          omega
        · have e : ([ts.getD i Tab.none].flatMap (·.cols)).length = (ts.getD i Tab.none).cols.length := by simp
          rw [takeT hil, List.flatMap_append, List.length_append, e]
          omega
      case measure => simp [intOf]; omega
    · intros
      rename_i he
      subst he
      rw [← hlen, List.take_length] at hJ
      exact e3 _ _ _ (e2 _ _ (HN.out _ _ _ _ _ _ _ _ _ _ _ _ _ _ _ _ _ _ _ _ _ _ _ _ _ _ _ _ _ _ _ _ _ _ _ _ _ _ _ _ _ _ _ _ hJ))

set_option maxRecDepth 100000 in
theorem jn_ret {x0 x1 x4 x5 x6 x7 x8 x9 x10 x11 x12 x13 x14 x15 x16 x17 x18 x19 x20 x21 x22 x23 x24 x25 x26 x27 x28 x29 x30 x31 x32 x33 x34 x35 x36 x37 x38 x39 x40 x41 x42 x43 x44 x45 x46 x47 x48 x49 x50 x51 x52 x53 x54 x55 x56 x57 x58 x59 x60 x61 x62 x63 x64 x65 x66 x67 x68 x69 x70 x71 x72 x73 x74 x75 x76 x77 x78 x79 x80 x81 x82 x83 x84 x85 x86 x87 x88 x89 x90 x91 x92 x93 x94 : Value} {R : Nat} {u : TV} {er : Int} {post : Ending → World → Prop} {W : World} (hr : TVar W R u) (h : post (.returned (.tuple #[.agg #[.slice u.p0 u.l0 u.c0, .slice u.p1 u.l1 u.c1, .slice u.p2 u.l2 u.c2], .int .i64 er])) W) : bodyPost Try.prog Try.f19 post .ret ⟨#[x0, x1, .pointer (some ⟨R, 0, none⟩), .int .i64 er, x4, x5, x6, x7, x8, x9, x10, x11, x12, x13, x14, x15, x16, x17, x18, x19, x20, x21, x22, x23, x24, x25, x26, x27, x28, x29, x30, x31, x32, x33, x34, x35, x36, x37, x38, x39, x40, x41, x42, x43, x44, x45, x46, x47, x48, x49, x50, x51, x52, x53, x54, x55, x56, x57, x58, x59, x60, x61, x62, x63, x64, x65, x66, x67, x68, x69, x70, x71, x72, x73, x74, x75, x76, x77, x78, x79, x80, x81, x82, x83, x84, x85, x86, x87, x88, x89, x90, x91, x92, x93, x94], []⟩ W := by
  obtain ⟨r0, r1, r2, -⟩ := hr.cells
  exact bodyPost_ret (v := .tuple #[.agg #[.slice u.p0 u.l0 u.c0, .slice u.p1 u.l1 u.c1, .slice u.p2 u.l2 u.c2], .int .i64 er]) (by simp [results, Try.results19, go_sem, r0, r1, r2]) rfl h

/-- What a call that makes a table makes. -/
def TabT15 (P : Int → Tab → Prop) (w : World) (e : Ending) (w' : World) : Prop := ∃ (v : TV) (t : Tab) (err : Int), e = .returned (.tuple #[.agg #[.slice v.p0 v.l0 v.c0, .slice v.p1 v.l1 v.c1, .slice v.p2 v.l2 v.c2], .int .i64 err]) ∧ TabAt w' v t ∧ P err t ∧ Below w.heap.size w w'
theorem lsts_var {W W' : World} {a : Option Addr} {l c g : Nat} {u : TV} {xs : List Int} (h : Lsts W a l c xs) (k : TVar W g u) (o : Only (fun b => b = g) W W') : Lsts W' a l c xs := ⟨h.hlen, h.hcap, h.hmax, fun hp => by
  obtain ⟨b, off, e, hc⟩ := h.cells hp
  refine ⟨b, off, e, fun i hi => ?_⟩
  have q := hc i hi
  refine o.cell q (fun e2 => ?_)
  have e3 : b = g := e2
  subst e3
  obtain ⟨cur, t, h1, h2⟩ := k.headI
  rw [cell_of_row _ _ _ _ _ _ h1] at q
  exact h2 _ _ q, h.word⟩
theorem LHd.row15 {Q : Nat → Prop} {w : World} {base : Nat} {p : Option Addr} {l c : Nat} {ns : List (List Int)} (h : LHd Q w base (.slice p l c) ns) : IRows w p l c ns := by
  obtain ⟨a, c', e, hr, -⟩ := h.row
  cases e
  exact hr
theorem LHd.rowVar {Q : Nat → Prop} {W W' : World} {base g : Nat} {p : Option Addr} {l c : Nat} {u : TV} {ns : List (List Int)} (h : LHd Q W base (.slice p l c) ns) (k : TVar W g u) (o : Only (fun b => b = g) W W') : IRows W' p l c ns := by
  have hr := h.row15
  have hne := rows_var h k
  refine ⟨hr.hlen, hr.hcap, hr.hmax, fun hp => ?_⟩
  obtain ⟨b, off, e, hc⟩ := hr.cells hp
  subst e
  refine ⟨b, off, rfl, fun i hi => ?_⟩
  obtain ⟨p', n', k', e1, e2⟩ := hc i hi
  exact ⟨p', n', k', o.cell e1 (fun q => hne (by have q' : b = g := q; rw [q']; rfl)), lsts_var e2 k o⟩
theorem IOwn.lsts15 {w : World} {base : Nat} {p : Option Addr} {l c : Nat} {xs : List Int} (h : IOwn w base (.slice p l c) xs) (hd : ∀ x, x ∈ xs → -9223372036854775808 ≤ x ∧ x < 9223372036854775808) : Lsts w p l c xs := by
  obtain ⟨a, c', e, hr, -⟩ := h.lsts hd
  cases e
  exact hr
set_option maxRecDepth 100000 in
set_option maxHeartbeats 3200000 in
theorem r15join_any (a : Option Addr) (l c : Nat) (ts : List Tab) (w : World) (h : TRows w a l c ts) : Calls Try.prog 19 #[.slice a l c] w fun e w' => TabT15 (ResJoin15 ts) w e w' := by
  have hlen := h.hlen
  have hb0 := balloc w (.cells TV.none.cells 25)
  have hr0 := TVar.new w TV.none
  have hNone : ∀ (W : World) (er : Int), TVar W w.heap.size TV.none → Below w.heap.size w W → ResJoin15 ts er Tab.none → TVar (((W.setCell ⟨w.heap.size, 0, none⟩ (.slice none 0 0)).setCell ⟨w.heap.size, 1, none⟩ (.slice none 0 0)).setCell ⟨w.heap.size, 2, none⟩ (.slice none 0 0)) w.heap.size TV.none ∧ TabT15 (ResJoin15 ts) w (.returned (.tuple #[.agg #[.slice TV.none.p0 TV.none.l0 TV.none.c0, .slice TV.none.p1 TV.none.l1 TV.none.c1, .slice TV.none.p2 TV.none.l2 TV.none.c2], .int .i64 er])) (((W.setCell ⟨w.heap.size, 0, none⟩ (.slice none 0 0)).setCell ⟨w.heap.size, 1, none⟩ (.slice none 0 0)).setCell ⟨w.heap.size, 2, none⟩ (.slice none 0 0)) := fun W er hv hb hres =>
    ⟨put3_var TV.none hv, TV.none, Tab.none, er, rfl, TabAt.none _, hres, hb.trans ((put3_only (g := w.heap.size) _ _ _).below15 (Nat.le_refl _) hb.size)⟩
  go_enter Try.func19, Try.ntmps19
  refine pcSeq (fun Q0 n0 r0 _ => jn_p0 ?_)
  intros
  refine n0 _ _ (pcSeq (fun Q1 n1 r1 _ => jn_p1 hr0 ?_ ?_))
  · intros
    rename_i hfew
    refine n1 _ _ (pcSeq (fun Q2 n2 r2 _ => jn_l0 h hr0 hb0 (Nat.pos_of_ne_zero hfew.1) ?_ ?_))
    · intro w1
      intros
      rename_i hok hr1 hb1
      obtain ⟨b, off, v, rfl, ⟨y0, -, -⟩, ht⟩ := (h.below hb1).at (i := 0) (Nat.pos_of_ne_zero hfew.1)
      rw [Nat.zero_mul, Nat.add_zero] at y0
      have h0 := (hok 0 (by have := hfew.1; omega)).1
      have hi0 := ht.ids.hlen
      have hf0 := h0.ids.few
      refine n2 _ _ (pcSeq (fun Q3 n3 r3 _ => jn_p10 y0 (Nat.pos_of_ne_zero hfew.1) ht.ids (by omega) ?_))
      intro s q0 j0 X
      intros
      rename_i k1 k2 k3 k4 k5
      have hbX := bthen hb1 k5
      have hrX := hr1.below k5
      have hsw : w.heap.size ≤ s := Nat.le_trans hb1.size k4
      have hRs : w.heap.size ≠ s := by have := hr1.lt; omega
      have hJ : JoAt X w.heap.size s q0 v.l0 j0 ⟨q0, v.l0, j0, none, 0, 0, none, 0, 0⟩ [] [] X := ⟨hrX, k1, ⟨rfl, rfl, rfl⟩, IOwn.nil _ _, LHd.nil _ _, Only.refl _ _, k1.lt, hRs⟩
      have hw : ∀ W', Only (fun b => b = s) X W' → Below w.heap.size w W' := fun W' o => hbX.trans (o.below15 hsw hbX.size)
      refine n3 _ _ (pcSeq (fun Q4 n4 r4 _ => jn_l2 h hfew.2 hw hJ hok ?_))
      intro u wx
      intros
      rename_i hJ2
      refine n4 _ _ (jn_p19 hJ2.r hJ2.var ?_)
      intros
      have hbx := hw _ hJ2.only
      have ho := put3_only (W := wx) (g := w.heap.size) (.slice u.p0 u.l0 u.c0) (.slice u.p1 u.l1 u.c1) (.slice u.p2 u.l2 u.c2)
      have hvR := put3_var u hJ2.r
      have hd : ∀ x, x ∈ ts.flatMap (·.bins) → -9223372036854775808 ≤ x ∧ x < 9223372036854775808 := fun x hx => by
        obtain ⟨t, htm, hxt⟩ := List.mem_flatMap.1 hx
        obtain ⟨i, hi, e⟩ := List.mem_iff_getElem.1 htm
        have e2 : ts.getD i Tab.none = t := by simp [List.getD, List.getElem?_eq_getElem hi, e]
        have ht' := (hok i hi).1
        rw [e2] at ht'
        obtain ⟨j, hj, ej⟩ := List.mem_iff_getElem.1 hxt
        have hc := ht'.col j (by rw [← ht'.len]; exact hj)
        have e3 : t.bins.getD j 0 = x := by simp [List.getD, List.getElem?_eq_getElem hj, ej]
        have h1 := hc.lo
        have h2 := hc.hi
        rw [e3] at h1 h2
        omega
      refine jn_ret hvR ⟨u, joinT ts, 0, rfl, ⟨?_, ?_, ?_⟩, .inr ⟨by rw [hlen]; exact hfew, .inr ⟨hok, rfl, rfl⟩⟩, hbx.trans (ho.below15 (Nat.le_refl _) hbx.size)⟩
      · have hids := lsts_only15 k2 hJ2.only (fun ad e => k3 ad e)
        obtain ⟨e1, e2, e3⟩ := hJ2.u0
        rw [← e1, ← e2, ← e3] at hids
        exact lsts_var hids hJ2.r ho
      · exact lsts_var (IOwn.lsts15 hJ2.bins hd) hJ2.r ho
      · exact hJ2.cols.rowVar hJ2.r ho
    · intro w1
      intros
      rename_i hno hr1 hb1
      obtain ⟨z1, z2⟩ := hNone w1 20 hr1 hb1 (.inr ⟨by rw [hlen]; exact hfew, .inl ⟨hno, rfl, rfl⟩⟩)
      exact r2 _ _ (jn_ret (u := TV.none) z1 z2)
  · intros
    rename_i hno
    obtain ⟨z1, z2⟩ := hNone _ 1 hr0 hb0 (.inl ⟨by rw [hlen]; exact hno, rfl, rfl⟩)
    exact r1 _ _ (jn_ret (u := TV.none) z1 z2)
end Go.Proofs.Ytaiikhbfnfcalaa

namespace Go.Proofs.Ytaiikhbfnfcalaa
open Go.RowKit

/-- A call of a function that leaves the world as it is, as one step of a region that draws. -/
theorem step_fn {P : Program} {ops : Array Oper} {o : Oper} {a : Act} {w : World} {K : Act → World → Prop} {Q : Exit → Act → World → Prop} {E : Prop} (hgd : o.guard = none) (f : FuncId) (args : Array Value) (v : Value) (hrun : (execOp a.eval o).run P w = .ok (.enter f args) w) (hc : Calls P f args w fun e w' => e = .returned v ∧ w' = w) (h : K (a.put o.dst v) w) : if Region.wanted o (yielded ops a.tmps) = true then Oper.wp P o a w K Q else E := by
  rw [if_pos (by simp [Region.wanted, hgd])]
  unfold Oper.wp
  rw [hrun]
  refine Calls.mono hc ?_
  rintro e w' ⟨rfl, rfl⟩
  exact h

set_option maxRecDepth 100000 in
set_option maxHeartbeats 12800000 in
theorem tk_p0 {x1 x2 x3 x4 x5 x6 x7 x8 x9 x10 x11 x12 x13 x14 x15 x16 x17 x18 x19 x20 x21 x22 x23 x24 x25 x26 x27 x28 x29 x30 x31 x32 x33 x34 x35 x36 x37 x38 x39 x40 x41 x42 x43 x44 x45 x46 x47 x48 x49 x50 x51 x52 x53 x54 x55 x56 x57 x58 x59 x60 x61 x62 x63 x64 x65 x66 x67 x68 x69 x70 x71 x72 x73 x74 x75 x76 x77 x78 x79 x80 x81 x82 x83 : Value} {Q : Exit → Act → World → Prop} {W : World} {v : TV} 
    (hN : Q .normal ⟨#[.agg #[.slice v.p0 v.l0 v.c0, .slice v.p1 v.l1 v.c1, .slice v.p2 v.l2 v.c2], x1, .pointer (some ⟨W.heap.size, 0, none⟩), x3, .pointer (some ⟨(W.heap.size + 1), 0, none⟩), .int .i64 0, x6, x7, x8, x9, x10, x11, x12, x13, x14, x15, x16, x17, x18, x19, x20, x21, x22, x23, x24, x25, x26, x27, x28, x29, x30, x31, x32, x33, x34, x35, x36, x37, x38, x39, x40, x41, x42, x43, x44, x45, x46, x47, x48, x49, x50, x51, x52, x53, x54, x55, x56, x57, x58, x59, x60, x61, x62, x63, x64, x65, x66, x67, x68, x69, x70, x71, x72, x73, x74, x75, x76, x77, x78, x79, x80, x81, x82, x83], []⟩ ((W.alloc (.cells v.cells 25)).alloc (.cells TV.none.cells 25))) :
    Code.wp Try.prog ((Try.f16.body.bind (pcAt 0)).getD .skip) Q ⟨#[.agg #[.slice v.p0 v.l0 v.c0, .slice v.p1 v.l1 v.c1, .slice v.p2 v.l2 v.c2], x1, x2, x3, x4, x5, x6, x7, x8, x9, x10, x11, x12, x13, x14, x15, x16, x17, x18, x19, x20, x21, x22, x23, x24, x25, x26, x27, x28, x29, x30, x31, x32, x33, x34, x35, x36, x37, x38, x39, x40, x41, x42, x43, x44, x45, x46, x47, x48, x49, x50, x51, x52, x53, x54, x55, x56, x57, x58, x59, x60, x61, x62, x63, x64, x65, x66, x67, x68, x69, x70, x71, x72, x73, x74, x75, x76, x77, x78, x79, x80, x81, x82, x83], []⟩ W := by
  conv => arg 2; whnf
  have HN : Hid (Q .normal ⟨#[.agg #[.slice v.p0 v.l0 v.c0, .slice v.p1 v.l1 v.c1, .slice v.p2 v.l2 v.c2], x1, .pointer (some ⟨W.heap.size, 0, none⟩), x3, .pointer (some ⟨(W.heap.size + 1), 0, none⟩), .int .i64 0, x6, x7, x8, x9, x10, x11, x12, x13, x14, x15, x16, x17, x18, x19, x20, x21, x22, x23, x24, x25, x26, x27, x28, x29, x30, x31, x32, x33, x34, x35, x36, x37, x38, x39, x40, x41, x42, x43, x44, x45, x46, x47, x48, x49, x50, x51, x52, x53, x54, x55, x56, x57, x58, x59, x60, x61, x62, x63, x64, x65, x66, x67, x68, x69, x70, x71, x72, x73, x74, x75, x76, x77, x78, x79, x80, x81, x82, x83], []⟩ ((W.alloc (.cells v.cells 25)).alloc (.cells TV.none.cells 25))) := hN
  clear hN
  go_wp2_with fail
  exact HN.out   

set_option maxRecDepth 100000 in
set_option maxHeartbeats 12800000 in
theorem tk_p1 {x0 x1 x3 x4 x5 x6 x7 x8 x9 x10 x11 x12 x13 x14 x15 x16 x17 x18 x19 x20 x21 x22 x23 x24 x25 x26 x27 x28 x29 x30 x31 x32 x33 x34 x35 x36 x37 x38 x39 x40 x41 x42 x43 x44 x45 x46 x47 x48 x49 x50 x51 x52 x53 x54 x55 x56 x57 x58 x59 x60 x61 x62 x63 x64 x65 x66 x67 x68 x69 x70 x71 x72 x73 x74 x75 x76 x77 x78 x79 x80 x81 x82 x83 : Value} {Q : Exit → Act → World → Prop} {W : World} {g : Nat} {v : TV} {t : Tab} (hv : TVar W g v) (ht : TabAt W v t)
    (hN : ∀ (z : Bool) (wx : World) (y13 y14 : Value), (z = true ↔ TabOk t) → Below W.heap.size W wx → Q .normal ⟨#[x0, x1, .pointer (some ⟨g, 0, none⟩), x3, x4, x5, .bool z, x7, x8, x9, x10, x11, x12, y13, y14, x15, x16, x17, x18, x19, x20, x21, x22, x23, x24, x25, x26, x27, x28, x29, x30, x31, x32, x33, x34, x35, x36, x37, x38, x39, x40, x41, x42, x43, x44, x45, x46, x47, x48, x49, x50, x51, x52, x53, x54, x55, x56, x57, x58, x59, x60, x61, x62, x63, x64, x65, x66, x67, x68, x69, x70, x71, x72, x73, x74, x75, x76, x77, x78, x79, x80, x81, x82, x83], []⟩ wx) :
    Code.wp Try.prog ((Try.f16.body.bind (pcAt 1)).getD .skip) Q ⟨#[x0, x1, .pointer (some ⟨g, 0, none⟩), x3, x4, x5, x6, x7, x8, x9, x10, x11, x12, x13, x14, x15, x16, x17, x18, x19, x20, x21, x22, x23, x24, x25, x26, x27, x28, x29, x30, x31, x32, x33, x34, x35, x36, x37, x38, x39, x40, x41, x42, x43, x44, x45, x46, x47, x48, x49, x50, x51, x52, x53, x54, x55, x56, x57, x58, x59, x60, x61, x62, x63, x64, x65, x66, x67, x68, x69, x70, x71, x72, x73, x74, x75, x76, x77, x78, x79, x80, x81, x82, x83], []⟩ W := by
  conv => arg 2; whnf
  have HN : Hid (∀ (z : Bool) (wx : World) (y13 y14 : Value), (z = true ↔ TabOk t) → Below W.heap.size W wx → Q .normal ⟨#[x0, x1, .pointer (some ⟨g, 0, none⟩), x3, x4, x5, .bool z, x7, x8, x9, x10, x11, x12, y13, y14, x15, x16, x17, x18, x19, x20, x21, x22, x23, x24, x25, x26, x27, x28, x29, x30, x31, x32, x33, x34, x35, x36, x37, x38, x39, x40, x41, x42, x43, x44, x45, x46, x47, x48, x49, x50, x51, x52, x53, x54, x55, x56, x57, x58, x59, x60, x61, x62, x63, x64, x65, x66, x67, x68, x69, x70, x71, x72, x73, x74, x75, x76, x77, x78, x79, x80, x81, x82, x83], []⟩ wx) := hN
  clear hN
  obtain ⟨c0, c1, c2, -⟩ := hv.cells
  have HC := (show Hid _ from r15right_any v t W ht)
  clear hv ht
  go_wp2_with fail
  refine Calls.mono HC.out ?_
  rintro e w2 ⟨z, rfl, hb, hbl⟩
  have HB : Hid ((z = true ↔ TabOk t) ∧ Below W.heap.size W w2) := ⟨hb, hbl⟩
  clear hb hbl HC
  go_wp2_with fail
  exact HN.out _ _ _ _ HB.out.1 HB.out.2

set_option maxRecDepth 100000 in
set_option maxHeartbeats 12800000 in
theorem tk_p2 {x0 x2 x3 x4 x5 x6 x7 x8 x9 x10 x11 x12 x13 x14 x15 x16 x17 x18 x19 x20 x21 x22 x23 x24 x25 x26 x27 x28 x29 x30 x31 x32 x33 x34 x35 x36 x37 x38 x39 x40 x41 x42 x43 x44 x45 x46 x47 x48 x49 x50 x51 x52 x53 x54 x55 x56 x57 x58 x59 x60 x61 x62 x63 x64 x65 x66 x67 x68 x69 x70 x71 x72 x73 x74 x75 x76 x77 x78 x79 x80 x81 x82 x83 : Value} {Q : Exit → Act → World → Prop} {W : World} {p : Option Addr} {l c : Nat} {xs : List Int} (hL : Lsts W p l c xs)
    (hN : ∀ (z : Bool) (y15 y16 : Value), (z = true ↔ IdsOk xs) → Q .normal ⟨#[x0, .slice p l c, x2, x3, x4, x5, x6, .bool z, x8, x9, x10, x11, x12, x13, x14, y15, y16, x17, x18, x19, x20, x21, x22, x23, x24, x25, x26, x27, x28, x29, x30, x31, x32, x33, x34, x35, x36, x37, x38, x39, x40, x41, x42, x43, x44, x45, x46, x47, x48, x49, x50, x51, x52, x53, x54, x55, x56, x57, x58, x59, x60, x61, x62, x63, x64, x65, x66, x67, x68, x69, x70, x71, x72, x73, x74, x75, x76, x77, x78, x79, x80, x81, x82, x83], []⟩ W) :
    Code.wp Try.prog ((Try.f16.body.bind (pcAt 2)).getD .skip) Q ⟨#[x0, .slice p l c, x2, x3, x4, x5, x6, x7, x8, x9, x10, x11, x12, x13, x14, x15, x16, x17, x18, x19, x20, x21, x22, x23, x24, x25, x26, x27, x28, x29, x30, x31, x32, x33, x34, x35, x36, x37, x38, x39, x40, x41, x42, x43, x44, x45, x46, x47, x48, x49, x50, x51, x52, x53, x54, x55, x56, x57, x58, x59, x60, x61, x62, x63, x64, x65, x66, x67, x68, x69, x70, x71, x72, x73, x74, x75, x76, x77, x78, x79, x80, x81, x82, x83], []⟩ W := by
  conv => arg 2; whnf
  have HN : Hid (∀ (z : Bool) (y15 y16 : Value), (z = true ↔ IdsOk xs) → Q .normal ⟨#[x0, .slice p l c, x2, x3, x4, x5, x6, .bool z, x8, x9, x10, x11, x12, x13, x14, y15, y16, x17, x18, x19, x20, x21, x22, x23, x24, x25, x26, x27, x28, x29, x30, x31, x32, x33, x34, x35, x36, x37, x38, x39, x40, x41, x42, x43, x44, x45, x46, x47, x48, x49, x50, x51, x52, x53, x54, x55, x56, x57, x58, x59, x60, x61, x62, x63, x64, x65, x66, x67, x68, x69, x70, x71, x72, x73, x74, x75, x76, x77, x78, x79, x80, x81, x82, x83], []⟩ W) := hN
  clear hN
  have HC := (show Hid _ from r15ids_any p l c xs W hL)
  clear hL
  go_wp2_with fail
  refine Calls.mono HC.out ?_
  rintro e w2 ⟨z, rfl, hb, rfl⟩
  have HB : Hid (z = true ↔ IdsOk xs) := hb
  clear hb HC
  go_wp2_with fail
  exact HN.out _ _ _ HB.out

set_option maxRecDepth 100000 in
set_option maxHeartbeats 12800000 in
theorem tk_p3 {x0 x1 x2 x3 x5 x8 x9 x10 x11 x12 x13 x14 x15 x16 x17 x18 x19 x20 x21 x22 x23 x24 x25 x26 x27 x28 x29 x30 x31 x32 x33 x34 x35 x36 x37 x38 x39 x40 x41 x42 x43 x44 x45 x46 x47 x48 x49 x50 x51 x52 x53 x54 x55 x56 x57 x58 x59 x60 x61 x62 x63 x64 x65 x66 x67 x68 x69 x70 x71 x72 x73 x74 x75 x76 x77 x78 x79 x80 x81 x82 x83 : Value} {Q : Exit → Act → World → Prop} {W : World} {R : Nat} {z y : Bool} (hr : TVar W R TV.none)
    (hN : ∀ (y5 y17 y18 y19 y20 y21 y22 y23 : Value), z = true → y = true → Q .normal ⟨#[x0, x1, x2, x3, .pointer (some ⟨R, 0, none⟩), y5, .bool z, .bool y, x8, x9, x10, x11, x12, x13, x14, x15, x16, y17, y18, y19, y20, y21, y22, y23, x24, x25, x26, x27, x28, x29, x30, x31, x32, x33, x34, x35, x36, x37, x38, x39, x40, x41, x42, x43, x44, x45, x46, x47, x48, x49, x50, x51, x52, x53, x54, x55, x56, x57, x58, x59, x60, x61, x62, x63, x64, x65, x66, x67, x68, x69, x70, x71, x72, x73, x74, x75, x76, x77, x78, x79, x80, x81, x82, x83], []⟩ W)
    (hR : ∀ (y17 y18 y19 y20 y21 y22 y23 : Value), ¬ (z = true ∧ y = true) → Q .ret ⟨#[x0, x1, x2, x3, .pointer (some ⟨R, 0, none⟩), .int .i64 20, .bool z, .bool y, x8, x9, x10, x11, x12, x13, x14, x15, x16, y17, y18, y19, y20, y21, y22, y23, x24, x25, x26, x27, x28, x29, x30, x31, x32, x33, x34, x35, x36, x37, x38, x39, x40, x41, x42, x43, x44, x45, x46, x47, x48, x49, x50, x51, x52, x53, x54, x55, x56, x57, x58, x59, x60, x61, x62, x63, x64, x65, x66, x67, x68, x69, x70, x71, x72, x73, x74, x75, x76, x77, x78, x79, x80, x81, x82, x83], []⟩ (((W.setCell ⟨R, 0, none⟩ (.slice none 0 0)).setCell ⟨R, 1, none⟩ (.slice none 0 0)).setCell ⟨R, 2, none⟩ (.slice none 0 0))) :
    Code.wp Try.prog ((Try.f16.body.bind (pcAt 3)).getD .skip) Q ⟨#[x0, x1, x2, x3, .pointer (some ⟨R, 0, none⟩), x5, .bool z, .bool y, x8, x9, x10, x11, x12, x13, x14, x15, x16, x17, x18, x19, x20, x21, x22, x23, x24, x25, x26, x27, x28, x29, x30, x31, x32, x33, x34, x35, x36, x37, x38, x39, x40, x41, x42, x43, x44, x45, x46, x47, x48, x49, x50, x51, x52, x53, x54, x55, x56, x57, x58, x59, x60, x61, x62, x63, x64, x65, x66, x67, x68, x69, x70, x71, x72, x73, x74, x75, x76, x77, x78, x79, x80, x81, x82, x83], []⟩ W := by
  conv => arg 2; whnf
  have HN : Hid (∀ (y5 y17 y18 y19 y20 y21 y22 y23 : Value), z = true → y = true → Q .normal ⟨#[x0, x1, x2, x3, .pointer (some ⟨R, 0, none⟩), y5, .bool z, .bool y, x8, x9, x10, x11, x12, x13, x14, x15, x16, y17, y18, y19, y20, y21, y22, y23, x24, x25, x26, x27, x28, x29, x30, x31, x32, x33, x34, x35, x36, x37, x38, x39, x40, x41, x42, x43, x44, x45, x46, x47, x48, x49, x50, x51, x52, x53, x54, x55, x56, x57, x58, x59, x60, x61, x62, x63, x64, x65, x66, x67, x68, x69, x70, x71, x72, x73, x74, x75, x76, x77, x78, x79, x80, x81, x82, x83], []⟩ W) := hN
  have HR : Hid (∀ (y17 y18 y19 y20 y21 y22 y23 : Value), ¬ (z = true ∧ y = true) → Q .ret ⟨#[x0, x1, x2, x3, .pointer (some ⟨R, 0, none⟩), .int .i64 20, .bool z, .bool y, x8, x9, x10, x11, x12, x13, x14, x15, x16, y17, y18, y19, y20, y21, y22, y23, x24, x25, x26, x27, x28, x29, x30, x31, x32, x33, x34, x35, x36, x37, x38, x39, x40, x41, x42, x43, x44, x45, x46, x47, x48, x49, x50, x51, x52, x53, x54, x55, x56, x57, x58, x59, x60, x61, x62, x63, x64, x65, x66, x67, x68, x69, x70, x71, x72, x73, x74, x75, x76, x77, x78, x79, x80, x81, x82, x83], []⟩ (((W.setCell ⟨R, 0, none⟩ (.slice none 0 0)).setCell ⟨R, 1, none⟩ (.slice none 0 0)).setCell ⟨R, 2, none⟩ (.slice none 0 0))) := hR
  clear hN hR
  obtain ⟨r0, r1, r2, fz⟩ := hr.cells
  have f0 := fz 0
  have f1 := fz 1
  have f2 := fz 2
  unfold TV.none at r0 r1 r2
  clear fz hr
  cases z with
  | false =>
    clear HN
    go_wp2_with fail
    exact HR.out  _ _ _ _ _ _ _ (fun e => by cases e.1)
  | true =>
    cases y with
    | false =>
      clear HN
      go_wp2_with fail
      exact HR.out  _ _ _ _ _ _ _ (fun e => by cases e.2)
    | true =>
      clear HR
      go_wp2_with fail
      exact HN.out  _ _ _ _ _ _ _ _ (by trivial) (by trivial)

set_option maxRecDepth 100000 in
set_option maxHeartbeats 12800000 in
theorem tk_t7 {x0 x2 x3 x4 x5 x6 x7 x8 x10 x11 x12 x13 x14 x15 x16 x17 x18 x19 x20 x21 x22 x23 x24 x25 x26 x27 x28 x29 x30 x31 x32 x33 x34 x35 x36 x37 x38 x39 x40 x41 x42 x43 x44 x45 x46 x47 x48 x49 x50 x51 x52 x53 x54 x55 x56 x57 x58 x59 x60 x61 x62 x63 x64 x65 x66 x67 x68 x69 x70 x71 x72 x73 x74 x75 x76 x77 x78 x79 x80 x81 x82 x83 : Value} {Q : Exit → Act → World → Prop} {W : World} {p : Option Addr} {l c i : Nat} (hi : i ≤ l)
    (hN : ∀ (y32 y33 y34 y35 : Value), i < l → Q .normal ⟨#[x0, .slice p l c, x2, x3, x4, x5, x6, x7, x8, .int .i64 (i : Int), x10, x11, x12, x13, x14, x15, x16, x17, x18, x19, x20, x21, x22, x23, x24, x25, x26, x27, x28, x29, x30, x31, y32, y33, y34, y35, x36, x37, x38, x39, x40, x41, x42, x43, x44, x45, x46, x47, x48, x49, x50, x51, x52, x53, x54, x55, x56, x57, x58, x59, x60, x61, x62, x63, x64, x65, x66, x67, x68, x69, x70, x71, x72, x73, x74, x75, x76, x77, x78, x79, x80, x81, x82, x83], []⟩ W)
    (hE : ∀ (y32 y33 y34 y35 : Value), i = l → Q (.exit 0) ⟨#[x0, .slice p l c, x2, x3, x4, x5, x6, x7, x8, .int .i64 (i : Int), x10, x11, x12, x13, x14, x15, x16, x17, x18, x19, x20, x21, x22, x23, x24, x25, x26, x27, x28, x29, x30, x31, y32, y33, y34, y35, x36, x37, x38, x39, x40, x41, x42, x43, x44, x45, x46, x47, x48, x49, x50, x51, x52, x53, x54, x55, x56, x57, x58, x59, x60, x61, x62, x63, x64, x65, x66, x67, x68, x69, x70, x71, x72, x73, x74, x75, x76, x77, x78, x79, x80, x81, x82, x83], []⟩ W) :
    Code.wp Try.prog (((Try.f16.body.bind (pcLoop 0)).bind (pcAt 7)).getD .skip) Q ⟨#[x0, .slice p l c, x2, x3, x4, x5, x6, x7, x8, .int .i64 (i : Int), x10, x11, x12, x13, x14, x15, x16, x17, x18, x19, x20, x21, x22, x23, x24, x25, x26, x27, x28, x29, x30, x31, x32, x33, x34, x35, x36, x37, x38, x39, x40, x41, x42, x43, x44, x45, x46, x47, x48, x49, x50, x51, x52, x53, x54, x55, x56, x57, x58, x59, x60, x61, x62, x63, x64, x65, x66, x67, x68, x69, x70, x71, x72, x73, x74, x75, x76, x77, x78, x79, x80, x81, x82, x83], []⟩ W := by
  conv => arg 2; whnf
  have HN : Hid (∀ (y32 y33 y34 y35 : Value), i < l → Q .normal ⟨#[x0, .slice p l c, x2, x3, x4, x5, x6, x7, x8, .int .i64 (i : Int), x10, x11, x12, x13, x14, x15, x16, x17, x18, x19, x20, x21, x22, x23, x24, x25, x26, x27, x28, x29, x30, x31, y32, y33, y34, y35, x36, x37, x38, x39, x40, x41, x42, x43, x44, x45, x46, x47, x48, x49, x50, x51, x52, x53, x54, x55, x56, x57, x58, x59, x60, x61, x62, x63, x64, x65, x66, x67, x68, x69, x70, x71, x72, x73, x74, x75, x76, x77, x78, x79, x80, x81, x82, x83], []⟩ W) := hN
  have HE : Hid (∀ (y32 y33 y34 y35 : Value), i = l → Q (.exit 0) ⟨#[x0, .slice p l c, x2, x3, x4, x5, x6, x7, x8, .int .i64 (i : Int), x10, x11, x12, x13, x14, x15, x16, x17, x18, x19, x20, x21, x22, x23, x24, x25, x26, x27, x28, x29, x30, x31, y32, y33, y34, y35, x36, x37, x38, x39, x40, x41, x42, x43, x44, x45, x46, x47, x48, x49, x50, x51, x52, x53, x54, x55, x56, x57, x58, x59, x60, x61, x62, x63, x64, x65, x66, x67, x68, x69, x70, x71, x72, x73, x74, x75, x76, x77, x78, x79, x80, x81, x82, x83], []⟩ W) := hE
  clear hN hE
  by_cases hlt : i < l
  · have hlti : (i : Int) < (l : Int) := by omega
    clear HE
    go_wp2_with fail
    exact HN.out  _ _ _ _ hlt
  · have hlti : decide (i < l) = false := decide_eq_false hlt
    have HE2 : Hid (i = l) := by show _ = _; omega
    clear HN hi
    go_wp2_with fail
    exact HE.out  _ _ _ _ HE2.out

set_option maxRecDepth 100000 in
set_option maxHeartbeats 12800000 in
theorem tk_p8 {x0 x1 x2 x3 x4 x5 x6 x7 x8 x10 x11 x12 x13 x14 x15 x16 x17 x18 x19 x20 x21 x22 x23 x24 x25 x26 x27 x28 x29 x30 x31 x32 x33 x34 x35 x36 x37 x38 x39 x40 x41 x42 x43 x44 x45 x46 x47 x48 x49 x50 x51 x52 x53 x54 x55 x56 x57 x58 x59 x60 x61 x62 x63 x64 x65 x66 x67 x68 x69 x70 x71 x72 x73 x74 x75 x76 x77 x78 x79 x80 x81 x82 x83 : Value} {Q : Exit → Act → World → Prop} {W : World} {i : Nat} (h : i < 9223372036854775807)
    (hN : ∀ (y36 y37 : Value), Q .normal ⟨#[x0, x1, x2, x3, x4, x5, x6, x7, x8, .int .i64 ((i + 1 : Nat) : Int), x10, x11, x12, x13, x14, x15, x16, x17, x18, x19, x20, x21, x22, x23, x24, x25, x26, x27, x28, x29, x30, x31, x32, x33, x34, x35, y36, y37, x38, x39, x40, x41, x42, x43, x44, x45, x46, x47, x48, x49, x50, x51, x52, x53, x54, x55, x56, x57, x58, x59, x60, x61, x62, x63, x64, x65, x66, x67, x68, x69, x70, x71, x72, x73, x74, x75, x76, x77, x78, x79, x80, x81, x82, x83], []⟩ W) :
    Code.wp Try.prog (((Try.f16.body.bind (pcLoop 0)).bind (pcAt 8)).getD .skip) Q ⟨#[x0, x1, x2, x3, x4, x5, x6, x7, x8, .int .i64 (i : Int), x10, x11, x12, x13, x14, x15, x16, x17, x18, x19, x20, x21, x22, x23, x24, x25, x26, x27, x28, x29, x30, x31, x32, x33, x34, x35, x36, x37, x38, x39, x40, x41, x42, x43, x44, x45, x46, x47, x48, x49, x50, x51, x52, x53, x54, x55, x56, x57, x58, x59, x60, x61, x62, x63, x64, x65, x66, x67, x68, x69, x70, x71, x72, x73, x74, x75, x76, x77, x78, x79, x80, x81, x82, x83], []⟩ W := by
  conv => arg 2; whnf
  have HN : Hid (∀ (y36 y37 : Value), Q .normal ⟨#[x0, x1, x2, x3, x4, x5, x6, x7, x8, .int .i64 ((i + 1 : Nat) : Int), x10, x11, x12, x13, x14, x15, x16, x17, x18, x19, x20, x21, x22, x23, x24, x25, x26, x27, x28, x29, x30, x31, x32, x33, x34, x35, y36, y37, x38, x39, x40, x41, x42, x43, x44, x45, x46, x47, x48, x49, x50, x51, x52, x53, x54, x55, x56, x57, x58, x59, x60, x61, x62, x63, x64, x65, x66, x67, x68, x69, x70, x71, x72, x73, x74, x75, x76, x77, x78, x79, x80, x81, x82, x83], []⟩ W) := hN
  clear hN
  have e : ((i + 1 : Nat) : Int) = (i : Int) + 1 := by omega
  rw [e] at HN
  go_wp2_with fail
  exact HN.out  _ _ 

set_option maxRecDepth 100000 in
set_option maxHeartbeats 12800000 in
theorem tk_p9 {x0 x3 x5 x6 x7 x8 x10 x11 x12 x13 x14 x15 x16 x17 x18 x19 x20 x21 x22 x23 x24 x25 x26 x27 x28 x29 x30 x31 x32 x33 x34 x35 x36 x37 x38 x39 x40 x41 x42 x43 x44 x45 x46 x47 x48 x49 x50 x51 x52 x53 x54 x55 x56 x57 x58 x59 x60 x61 x62 x63 x64 x65 x66 x67 x68 x69 x70 x71 x72 x73 x74 x75 x76 x77 x78 x79 x80 x81 x82 x83 : Value} {Q : Exit → Act → World → Prop} {W : World} {g R b off l c i : Nat} {v : TV} {x : Int} {is : List Int} (hr : TVar W R TV.none) (hv : TVar W g v) (hLi : Lsts W v.p0 v.l0 v.c0 is) (mi : W.cell? ⟨b, off + i, none⟩ = some (.int .i64 x)) (hi : i < l)
    (hN : ∀ (wx : World) (y5 y38 y39 y40 y41 y42 y43 y44 y45 y46 : Value), Below W.heap.size W wx → x ∈ is → Q .normal ⟨#[x0, .slice (some ⟨b, off, none⟩) l c, .pointer (some ⟨g, 0, none⟩), x3, .pointer (some ⟨R, 0, none⟩), y5, x6, x7, x8, .int .i64 (i : Int), x10, x11, x12, x13, x14, x15, x16, x17, x18, x19, x20, x21, x22, x23, x24, x25, x26, x27, x28, x29, x30, x31, x32, x33, x34, x35, x36, x37, y38, y39, y40, y41, y42, y43, y44, y45, y46, x47, x48, x49, x50, x51, x52, x53, x54, x55, x56, x57, x58, x59, x60, x61, x62, x63, x64, x65, x66, x67, x68, x69, x70, x71, x72, x73, x74, x75, x76, x77, x78, x79, x80, x81, x82, x83], []⟩ wx)
    (hR : ∀ (wx : World) (y38 y39 y40 y41 y42 y43 y44 y45 y46 : Value), Below W.heap.size W wx → x ∉ is → Q .ret ⟨#[x0, .slice (some ⟨b, off, none⟩) l c, .pointer (some ⟨g, 0, none⟩), x3, .pointer (some ⟨R, 0, none⟩), .int .i64 20, x6, x7, x8, .int .i64 (i : Int), x10, x11, x12, x13, x14, x15, x16, x17, x18, x19, x20, x21, x22, x23, x24, x25, x26, x27, x28, x29, x30, x31, x32, x33, x34, x35, x36, x37, y38, y39, y40, y41, y42, y43, y44, y45, y46, x47, x48, x49, x50, x51, x52, x53, x54, x55, x56, x57, x58, x59, x60, x61, x62, x63, x64, x65, x66, x67, x68, x69, x70, x71, x72, x73, x74, x75, x76, x77, x78, x79, x80, x81, x82, x83], []⟩ (((wx.setCell ⟨R, 0, none⟩ (.slice none 0 0)).setCell ⟨R, 1, none⟩ (.slice none 0 0)).setCell ⟨R, 2, none⟩ (.slice none 0 0))) :
    Code.wp Try.prog (((Try.f16.body.bind (pcBlk 1)).bind (pcFrom 9)).getD .skip) Q ⟨#[x0, .slice (some ⟨b, off, none⟩) l c, .pointer (some ⟨g, 0, none⟩), x3, .pointer (some ⟨R, 0, none⟩), x5, x6, x7, x8, .int .i64 (i : Int), x10, x11, x12, x13, x14, x15, x16, x17, x18, x19, x20, x21, x22, x23, x24, x25, x26, x27, x28, x29, x30, x31, x32, x33, x34, x35, x36, x37, x38, x39, x40, x41, x42, x43, x44, x45, x46, x47, x48, x49, x50, x51, x52, x53, x54, x55, x56, x57, x58, x59, x60, x61, x62, x63, x64, x65, x66, x67, x68, x69, x70, x71, x72, x73, x74, x75, x76, x77, x78, x79, x80, x81, x82, x83], []⟩ W := by
  conv => arg 2; whnf
  have HN : Hid (∀ (wx : World) (y5 y38 y39 y40 y41 y42 y43 y44 y45 y46 : Value), Below W.heap.size W wx → x ∈ is → Q .normal ⟨#[x0, .slice (some ⟨b, off, none⟩) l c, .pointer (some ⟨g, 0, none⟩), x3, .pointer (some ⟨R, 0, none⟩), y5, x6, x7, x8, .int .i64 (i : Int), x10, x11, x12, x13, x14, x15, x16, x17, x18, x19, x20, x21, x22, x23, x24, x25, x26, x27, x28, x29, x30, x31, x32, x33, x34, x35, x36, x37, y38, y39, y40, y41, y42, y43, y44, y45, y46, x47, x48, x49, x50, x51, x52, x53, x54, x55, x56, x57, x58, x59, x60, x61, x62, x63, x64, x65, x66, x67, x68, x69, x70, x71, x72, x73, x74, x75, x76, x77, x78, x79, x80, x81, x82, x83], []⟩ wx) := hN
  have HR : Hid (∀ (wx : World) (y38 y39 y40 y41 y42 y43 y44 y45 y46 : Value), Below W.heap.size W wx → x ∉ is → Q .ret ⟨#[x0, .slice (some ⟨b, off, none⟩) l c, .pointer (some ⟨g, 0, none⟩), x3, .pointer (some ⟨R, 0, none⟩), .int .i64 20, x6, x7, x8, .int .i64 (i : Int), x10, x11, x12, x13, x14, x15, x16, x17, x18, x19, x20, x21, x22, x23, x24, x25, x26, x27, x28, x29, x30, x31, x32, x33, x34, x35, x36, x37, y38, y39, y40, y41, y42, y43, y44, y45, y46, x47, x48, x49, x50, x51, x52, x53, x54, x55, x56, x57, x58, x59, x60, x61, x62, x63, x64, x65, x66, x67, x68, x69, x70, x71, x72, x73, x74, x75, x76, x77, x78, x79, x80, x81, x82, x83], []⟩ (((wx.setCell ⟨R, 0, none⟩ (.slice none 0 0)).setCell ⟨R, 1, none⟩ (.slice none 0 0)).setCell ⟨R, 2, none⟩ (.slice none 0 0))) := hR
  clear hN hR
  obtain ⟨r0, r1, r2, fz⟩ := hr.cells
  have f0 := fz 0
  have f1 := fz 1
  have f2 := fz 2
  unfold TV.none at r0 r1 r2
  clear fz hr
  have c0 := hv.cells.1
  have hi1 : (i : Int) < (l : Int) := by omega
  have hi0 : (0 : Int) ≤ (i : Int) := by omega
  have HB : Hid (∀ n, Below W.heap.size W (W.drewN n)) := fun n => below_drewN (Below.refl _ W) n
  have HC : ∀ n, Hid (Calls Try.prog 29 #[.slice v.p0 v.l0 v.c0, .int .i64 x] (W.drewN n) fun e w' => e = .returned (.int .i64 (placeI is x)) ∧ w' = W.drewN n) := fun n => r15place_any _ _ _ is x _ (hLi.below (HB.out n))
  have hpos := placeI_pos (l := is) (x := x)
  obtain ⟨P, hP⟩ : ∃ P, P = placeI is x := ⟨_, rfl⟩
  rw [← hP] at HC hpos
  refine pcSeq (fun Q1 n1 r1 _ => ?_)
  refine wp_pcOnly ?_
  by_cases hx : x ∈ is
  · have d1 : decide (P < 0) = false := decide_eq_false (by have := hpos.2 hx; omega)
    have HX : Hid (x ∈ is) := hx
    clear hLi hpos hP hx hv HR
    go_wp2_with fail
    go_quiet ((go_at_call 29; exact Calls.quiet_of_same (HC _).out))
    clear HC
    refine n1 _ _ ?_
    go_wp2_with fail
    exact HN.out _ _ _ _ _ _ _ _ _ _ _ (HB.out _) HX.out
  · have d1 : decide (P < 0) = true := decide_eq_true (by
      rcases Int.lt_or_le P 0 with q | q
      · exact q
      · exact absurd (hpos.1 q) hx)
    have HX : Hid (x ∉ is) := hx
    clear hLi hpos hP hx hv HN
    go_wp2_with fail
    go_quiet ((go_at_call 29; exact Calls.quiet_of_same (HC _).out))
    clear HC
    refine n1 _ _ ?_
    go_wp2_with fail
    exact HR.out _ _ _ _ _ _ _ _ _ _ (HB.out _) HX.out

set_option maxRecDepth 100000 in
set_option maxHeartbeats 12800000 in
theorem tk_t12 {x0 x1 x3 x4 x5 x6 x7 x8 x9 x11 x12 x13 x14 x15 x16 x17 x18 x19 x20 x21 x22 x23 x24 x25 x26 x27 x28 x29 x30 x31 x32 x33 x34 x35 x36 x37 x38 x39 x40 x41 x42 x43 x44 x45 x46 x47 x48 x49 x50 x51 x52 x53 x54 x55 x56 x57 x58 x59 x60 x61 x62 x63 x64 x65 x66 x67 x68 x69 x70 x71 x72 x73 x74 x75 x76 x77 x78 x79 x80 x81 x82 x83 : Value} {Q : Exit → Act → World → Prop} {W : World} {g k : Nat} {v : TV} (hv : TVar W g v) (hk : k ≤ v.l2)
    (hN : ∀ (y47 y48 y49 y50 y51 : Value), k < v.l2 → Q .normal ⟨#[x0, x1, .pointer (some ⟨g, 0, none⟩), x3, x4, x5, x6, x7, x8, x9, .int .i64 (k : Int), x11, x12, x13, x14, x15, x16, x17, x18, x19, x20, x21, x22, x23, x24, x25, x26, x27, x28, x29, x30, x31, x32, x33, x34, x35, x36, x37, x38, x39, x40, x41, x42, x43, x44, x45, x46, y47, y48, y49, y50, y51, x52, x53, x54, x55, x56, x57, x58, x59, x60, x61, x62, x63, x64, x65, x66, x67, x68, x69, x70, x71, x72, x73, x74, x75, x76, x77, x78, x79, x80, x81, x82, x83], []⟩ W)
    (hE : ∀ (y47 y48 y49 y50 y51 : Value), k = v.l2 → Q (.exit 2) ⟨#[x0, x1, .pointer (some ⟨g, 0, none⟩), x3, x4, x5, x6, x7, x8, x9, .int .i64 (k : Int), x11, x12, x13, x14, x15, x16, x17, x18, x19, x20, x21, x22, x23, x24, x25, x26, x27, x28, x29, x30, x31, x32, x33, x34, x35, x36, x37, x38, x39, x40, x41, x42, x43, x44, x45, x46, y47, y48, y49, y50, y51, x52, x53, x54, x55, x56, x57, x58, x59, x60, x61, x62, x63, x64, x65, x66, x67, x68, x69, x70, x71, x72, x73, x74, x75, x76, x77, x78, x79, x80, x81, x82, x83], []⟩ W) :
    Code.wp Try.prog (((Try.f16.body.bind (pcLoop 2)).bind (pcAt 12)).getD .skip) Q ⟨#[x0, x1, .pointer (some ⟨g, 0, none⟩), x3, x4, x5, x6, x7, x8, x9, .int .i64 (k : Int), x11, x12, x13, x14, x15, x16, x17, x18, x19, x20, x21, x22, x23, x24, x25, x26, x27, x28, x29, x30, x31, x32, x33, x34, x35, x36, x37, x38, x39, x40, x41, x42, x43, x44, x45, x46, x47, x48, x49, x50, x51, x52, x53, x54, x55, x56, x57, x58, x59, x60, x61, x62, x63, x64, x65, x66, x67, x68, x69, x70, x71, x72, x73, x74, x75, x76, x77, x78, x79, x80, x81, x82, x83], []⟩ W := by
  conv => arg 2; whnf
  have HN : Hid (∀ (y47 y48 y49 y50 y51 : Value), k < v.l2 → Q .normal ⟨#[x0, x1, .pointer (some ⟨g, 0, none⟩), x3, x4, x5, x6, x7, x8, x9, .int .i64 (k : Int), x11, x12, x13, x14, x15, x16, x17, x18, x19, x20, x21, x22, x23, x24, x25, x26, x27, x28, x29, x30, x31, x32, x33, x34, x35, x36, x37, x38, x39, x40, x41, x42, x43, x44, x45, x46, y47, y48, y49, y50, y51, x52, x53, x54, x55, x56, x57, x58, x59, x60, x61, x62, x63, x64, x65, x66, x67, x68, x69, x70, x71, x72, x73, x74, x75, x76, x77, x78, x79, x80, x81, x82, x83], []⟩ W) := hN
  have HE : Hid (∀ (y47 y48 y49 y50 y51 : Value), k = v.l2 → Q (.exit 2) ⟨#[x0, x1, .pointer (some ⟨g, 0, none⟩), x3, x4, x5, x6, x7, x8, x9, .int .i64 (k : Int), x11, x12, x13, x14, x15, x16, x17, x18, x19, x20, x21, x22, x23, x24, x25, x26, x27, x28, x29, x30, x31, x32, x33, x34, x35, x36, x37, x38, x39, x40, x41, x42, x43, x44, x45, x46, y47, y48, y49, y50, y51, x52, x53, x54, x55, x56, x57, x58, x59, x60, x61, x62, x63, x64, x65, x66, x67, x68, x69, x70, x71, x72, x73, x74, x75, x76, x77, x78, x79, x80, x81, x82, x83], []⟩ W) := hE
  clear hN hE
  have c2 := hv.cells.2.2.1
  clear hv
  by_cases hlt : k < v.l2
  · have hlti : (k : Int) < (v.l2 : Int) := by omega
    clear HE
    go_wp2_with fail
    exact HN.out  _ _ _ _ _ hlt
  · have hlti : decide (k < v.l2) = false := decide_eq_false hlt
    have HE2 : Hid (k = v.l2) := by show _ = _; omega
    clear HN hk
    go_wp2_with fail
    exact HE.out  _ _ _ _ _ HE2.out

set_option maxRecDepth 100000 in
set_option maxHeartbeats 12800000 in
theorem tk_p14 {x0 x1 x2 x3 x4 x5 x6 x7 x8 x9 x10 x11 x12 x13 x14 x15 x16 x17 x18 x19 x20 x21 x22 x23 x24 x25 x26 x27 x28 x29 x30 x31 x32 x33 x34 x35 x36 x37 x38 x39 x40 x41 x42 x43 x44 x45 x46 x47 x48 x49 x50 x51 x52 x53 x54 x55 x56 x57 x58 x59 x60 x61 x62 x63 x64 x65 x66 x67 x68 x69 x70 x71 x72 x73 x74 x75 x76 x77 x78 x79 x80 x81 x82 x83 : Value} {Q : Exit → Act → World → Prop} {W : World} 
    (hN : Q .normal ⟨#[x0, x1, x2, x3, x4, x5, x6, x7, x8, x9, x10, .slice none 0 0, x12, x13, x14, x15, x16, x17, x18, x19, x20, x21, x22, x23, x24, x25, x26, x27, x28, x29, x30, x31, x32, x33, x34, x35, x36, x37, x38, x39, x40, x41, x42, x43, x44, x45, x46, x47, x48, x49, x50, x51, x52, x53, x54, x55, x56, x57, x58, x59, x60, x61, x62, x63, x64, x65, x66, x67, x68, x69, x70, x71, x72, x73, x74, x75, x76, x77, x78, x79, x80, x81, x82, x83], []⟩ W) :
    Code.wp Try.prog (((Try.f16.body.bind (pcBlk 3)).bind (pcAt 14)).getD .skip) Q ⟨#[x0, x1, x2, x3, x4, x5, x6, x7, x8, x9, x10, x11, x12, x13, x14, x15, x16, x17, x18, x19, x20, x21, x22, x23, x24, x25, x26, x27, x28, x29, x30, x31, x32, x33, x34, x35, x36, x37, x38, x39, x40, x41, x42, x43, x44, x45, x46, x47, x48, x49, x50, x51, x52, x53, x54, x55, x56, x57, x58, x59, x60, x61, x62, x63, x64, x65, x66, x67, x68, x69, x70, x71, x72, x73, x74, x75, x76, x77, x78, x79, x80, x81, x82, x83], []⟩ W := by
  conv => arg 2; whnf
  have HN : Hid (Q .normal ⟨#[x0, x1, x2, x3, x4, x5, x6, x7, x8, x9, x10, .slice none 0 0, x12, x13, x14, x15, x16, x17, x18, x19, x20, x21, x22, x23, x24, x25, x26, x27, x28, x29, x30, x31, x32, x33, x34, x35, x36, x37, x38, x39, x40, x41, x42, x43, x44, x45, x46, x47, x48, x49, x50, x51, x52, x53, x54, x55, x56, x57, x58, x59, x60, x61, x62, x63, x64, x65, x66, x67, x68, x69, x70, x71, x72, x73, x74, x75, x76, x77, x78, x79, x80, x81, x82, x83], []⟩ W) := hN
  clear hN
  go_wp2_with fail
  exact HN.out   

set_option maxRecDepth 100000 in
set_option maxHeartbeats 12800000 in
theorem tk_t16 {x0 x2 x3 x4 x5 x6 x7 x8 x9 x10 x11 x13 x14 x15 x16 x17 x18 x19 x20 x21 x22 x23 x24 x25 x26 x27 x28 x29 x30 x31 x32 x33 x34 x35 x36 x37 x38 x39 x40 x41 x42 x43 x44 x45 x46 x47 x48 x49 x50 x51 x52 x53 x54 x55 x56 x57 x58 x59 x60 x61 x62 x63 x64 x65 x66 x67 x68 x69 x70 x71 x72 x73 x74 x75 x76 x77 x78 x79 x80 x81 x82 x83 : Value} {Q : Exit → Act → World → Prop} {W : World} {p : Option Addr} {l c i : Nat} (hi : i ≤ l)
    (hN : ∀ (y54 y55 y56 y57 : Value), i < l → Q .normal ⟨#[x0, .slice p l c, x2, x3, x4, x5, x6, x7, x8, x9, x10, x11, .int .i64 (i : Int), x13, x14, x15, x16, x17, x18, x19, x20, x21, x22, x23, x24, x25, x26, x27, x28, x29, x30, x31, x32, x33, x34, x35, x36, x37, x38, x39, x40, x41, x42, x43, x44, x45, x46, x47, x48, x49, x50, x51, x52, x53, y54, y55, y56, y57, x58, x59, x60, x61, x62, x63, x64, x65, x66, x67, x68, x69, x70, x71, x72, x73, x74, x75, x76, x77, x78, x79, x80, x81, x82, x83], []⟩ W)
    (hE : ∀ (y54 y55 y56 y57 : Value), i = l → Q (.exit 4) ⟨#[x0, .slice p l c, x2, x3, x4, x5, x6, x7, x8, x9, x10, x11, .int .i64 (i : Int), x13, x14, x15, x16, x17, x18, x19, x20, x21, x22, x23, x24, x25, x26, x27, x28, x29, x30, x31, x32, x33, x34, x35, x36, x37, x38, x39, x40, x41, x42, x43, x44, x45, x46, x47, x48, x49, x50, x51, x52, x53, y54, y55, y56, y57, x58, x59, x60, x61, x62, x63, x64, x65, x66, x67, x68, x69, x70, x71, x72, x73, x74, x75, x76, x77, x78, x79, x80, x81, x82, x83], []⟩ W) :
    Code.wp Try.prog (((Try.f16.body.bind (pcLoop 4)).bind (pcAt 16)).getD .skip) Q ⟨#[x0, .slice p l c, x2, x3, x4, x5, x6, x7, x8, x9, x10, x11, .int .i64 (i : Int), x13, x14, x15, x16, x17, x18, x19, x20, x21, x22, x23, x24, x25, x26, x27, x28, x29, x30, x31, x32, x33, x34, x35, x36, x37, x38, x39, x40, x41, x42, x43, x44, x45, x46, x47, x48, x49, x50, x51, x52, x53, x54, x55, x56, x57, x58, x59, x60, x61, x62, x63, x64, x65, x66, x67, x68, x69, x70, x71, x72, x73, x74, x75, x76, x77, x78, x79, x80, x81, x82, x83], []⟩ W := by
  conv => arg 2; whnf
  have HN : Hid (∀ (y54 y55 y56 y57 : Value), i < l → Q .normal ⟨#[x0, .slice p l c, x2, x3, x4, x5, x6, x7, x8, x9, x10, x11, .int .i64 (i : Int), x13, x14, x15, x16, x17, x18, x19, x20, x21, x22, x23, x24, x25, x26, x27, x28, x29, x30, x31, x32, x33, x34, x35, x36, x37, x38, x39, x40, x41, x42, x43, x44, x45, x46, x47, x48, x49, x50, x51, x52, x53, y54, y55, y56, y57, x58, x59, x60, x61, x62, x63, x64, x65, x66, x67, x68, x69, x70, x71, x72, x73, x74, x75, x76, x77, x78, x79, x80, x81, x82, x83], []⟩ W) := hN
  have HE : Hid (∀ (y54 y55 y56 y57 : Value), i = l → Q (.exit 4) ⟨#[x0, .slice p l c, x2, x3, x4, x5, x6, x7, x8, x9, x10, x11, .int .i64 (i : Int), x13, x14, x15, x16, x17, x18, x19, x20, x21, x22, x23, x24, x25, x26, x27, x28, x29, x30, x31, x32, x33, x34, x35, x36, x37, x38, x39, x40, x41, x42, x43, x44, x45, x46, x47, x48, x49, x50, x51, x52, x53, y54, y55, y56, y57, x58, x59, x60, x61, x62, x63, x64, x65, x66, x67, x68, x69, x70, x71, x72, x73, x74, x75, x76, x77, x78, x79, x80, x81, x82, x83], []⟩ W) := hE
  clear hN hE
  by_cases hlt : i < l
  · have hlti : (i : Int) < (l : Int) := by omega
    clear HE
    go_wp2_with fail
    exact HN.out  _ _ _ _ hlt
  · have hlti : decide (i < l) = false := decide_eq_false hlt
    have HE2 : Hid (i = l) := by show _ = _; omega
    clear HN hi
    go_wp2_with fail
    exact HE.out  _ _ _ _ HE2.out

set_option maxRecDepth 100000 in
set_option maxHeartbeats 12800000 in
theorem tk_p13 {x0 x1 x2 x3 x4 x5 x6 x7 x8 x9 x11 x12 x13 x14 x15 x16 x17 x18 x19 x20 x21 x22 x23 x24 x25 x26 x27 x28 x29 x30 x31 x32 x33 x34 x35 x36 x37 x38 x39 x40 x41 x42 x43 x44 x45 x46 x47 x48 x49 x50 x51 x52 x53 x54 x55 x56 x57 x58 x59 x60 x61 x62 x63 x64 x65 x66 x67 x68 x69 x70 x71 x72 x73 x74 x75 x76 x77 x78 x79 x80 x81 x82 x83 : Value} {Q : Exit → Act → World → Prop} {W : World} {i : Nat} (h : i < 9223372036854775807)
    (hN : ∀ (y52 y53 : Value), Q .normal ⟨#[x0, x1, x2, x3, x4, x5, x6, x7, x8, x9, .int .i64 ((i + 1 : Nat) : Int), x11, x12, x13, x14, x15, x16, x17, x18, x19, x20, x21, x22, x23, x24, x25, x26, x27, x28, x29, x30, x31, x32, x33, x34, x35, x36, x37, x38, x39, x40, x41, x42, x43, x44, x45, x46, x47, x48, x49, x50, x51, y52, y53, x54, x55, x56, x57, x58, x59, x60, x61, x62, x63, x64, x65, x66, x67, x68, x69, x70, x71, x72, x73, x74, x75, x76, x77, x78, x79, x80, x81, x82, x83], []⟩ W) :
    Code.wp Try.prog (((Try.f16.body.bind (pcLoop 2)).bind (pcAt 13)).getD .skip) Q ⟨#[x0, x1, x2, x3, x4, x5, x6, x7, x8, x9, .int .i64 (i : Int), x11, x12, x13, x14, x15, x16, x17, x18, x19, x20, x21, x22, x23, x24, x25, x26, x27, x28, x29, x30, x31, x32, x33, x34, x35, x36, x37, x38, x39, x40, x41, x42, x43, x44, x45, x46, x47, x48, x49, x50, x51, x52, x53, x54, x55, x56, x57, x58, x59, x60, x61, x62, x63, x64, x65, x66, x67, x68, x69, x70, x71, x72, x73, x74, x75, x76, x77, x78, x79, x80, x81, x82, x83], []⟩ W := by
  conv => arg 2; whnf
  have HN : Hid (∀ (y52 y53 : Value), Q .normal ⟨#[x0, x1, x2, x3, x4, x5, x6, x7, x8, x9, .int .i64 ((i + 1 : Nat) : Int), x11, x12, x13, x14, x15, x16, x17, x18, x19, x20, x21, x22, x23, x24, x25, x26, x27, x28, x29, x30, x31, x32, x33, x34, x35, x36, x37, x38, x39, x40, x41, x42, x43, x44, x45, x46, x47, x48, x49, x50, x51, y52, y53, x54, x55, x56, x57, x58, x59, x60, x61, x62, x63, x64, x65, x66, x67, x68, x69, x70, x71, x72, x73, x74, x75, x76, x77, x78, x79, x80, x81, x82, x83], []⟩ W) := hN
  clear hN
  have e : ((i + 1 : Nat) : Int) = (i : Int) + 1 := by omega
  rw [e] at HN
  go_wp2_with fail
  exact HN.out  _ _ 

set_option maxRecDepth 100000 in
set_option maxHeartbeats 12800000 in
theorem tk_p17 {x0 x1 x2 x3 x4 x5 x6 x7 x8 x9 x10 x11 x13 x14 x15 x16 x17 x18 x19 x20 x21 x22 x23 x24 x25 x26 x27 x28 x29 x30 x31 x32 x33 x34 x35 x36 x37 x38 x39 x40 x41 x42 x43 x44 x45 x46 x47 x48 x49 x50 x51 x52 x53 x54 x55 x56 x57 x58 x59 x60 x61 x62 x63 x64 x65 x66 x67 x68 x69 x70 x71 x72 x73 x74 x75 x76 x77 x78 x79 x80 x81 x82 x83 : Value} {Q : Exit → Act → World → Prop} {W : World} {i : Nat} (h : i < 9223372036854775807)
    (hN : ∀ (y58 y59 : Value), Q .normal ⟨#[x0, x1, x2, x3, x4, x5, x6, x7, x8, x9, x10, x11, .int .i64 ((i + 1 : Nat) : Int), x13, x14, x15, x16, x17, x18, x19, x20, x21, x22, x23, x24, x25, x26, x27, x28, x29, x30, x31, x32, x33, x34, x35, x36, x37, x38, x39, x40, x41, x42, x43, x44, x45, x46, x47, x48, x49, x50, x51, x52, x53, x54, x55, x56, x57, y58, y59, x60, x61, x62, x63, x64, x65, x66, x67, x68, x69, x70, x71, x72, x73, x74, x75, x76, x77, x78, x79, x80, x81, x82, x83], []⟩ W) :
    Code.wp Try.prog (((Try.f16.body.bind (pcLoop 4)).bind (pcAt 17)).getD .skip) Q ⟨#[x0, x1, x2, x3, x4, x5, x6, x7, x8, x9, x10, x11, .int .i64 (i : Int), x13, x14, x15, x16, x17, x18, x19, x20, x21, x22, x23, x24, x25, x26, x27, x28, x29, x30, x31, x32, x33, x34, x35, x36, x37, x38, x39, x40, x41, x42, x43, x44, x45, x46, x47, x48, x49, x50, x51, x52, x53, x54, x55, x56, x57, x58, x59, x60, x61, x62, x63, x64, x65, x66, x67, x68, x69, x70, x71, x72, x73, x74, x75, x76, x77, x78, x79, x80, x81, x82, x83], []⟩ W := by
  conv => arg 2; whnf
  have HN : Hid (∀ (y58 y59 : Value), Q .normal ⟨#[x0, x1, x2, x3, x4, x5, x6, x7, x8, x9, x10, x11, .int .i64 ((i + 1 : Nat) : Int), x13, x14, x15, x16, x17, x18, x19, x20, x21, x22, x23, x24, x25, x26, x27, x28, x29, x30, x31, x32, x33, x34, x35, x36, x37, x38, x39, x40, x41, x42, x43, x44, x45, x46, x47, x48, x49, x50, x51, x52, x53, x54, x55, x56, x57, y58, y59, x60, x61, x62, x63, x64, x65, x66, x67, x68, x69, x70, x71, x72, x73, x74, x75, x76, x77, x78, x79, x80, x81, x82, x83], []⟩ W) := hN
  clear hN
  have e : ((i + 1 : Nat) : Int) = (i : Int) + 1 := by omega
  rw [e] at HN
  go_wp2_with fail
  exact HN.out  _ _ 

end Go.Proofs.Ytaiikhbfnfcalaa

namespace Go.Proofs.Ytaiikhbfnfcalaa
open Go.RowKit

/-- A table whose blocks F tells. -/
structure TabF (F : Nat → Prop) (w : World) (v : TV) (t : Tab) : Prop where
  ids : LE F w v.p0 v.l0 v.c0 t.ids
  bins : LE F w v.p1 v.l1 v.c1 t.bins
  cols : IRows w v.p2 v.l2 v.c2 t.cols
  row : ∀ ad, v.p2 = some ad → F ad.block
  ent : ∀ ad i p n k, v.p2 = some ad → i < v.l2 → w.cell? ⟨ad.block, ad.off + i, none⟩ = some (.slice p n k) → ∀ a, p = some a → F a.block
theorem TabF.tab {F : Nat → Prop} {w : World} {v : TV} {t : Tab} (h : TabF F w v t) : TabAt w v t := ⟨h.ids.1, h.bins.1, h.cols⟩
/-- Take, under way: the table that is made. -/
structure TkAt (X : World) (g R s : Nat) (v u0 u : TV) (cs : List (List Int)) (W : World) : Prop where
  gv : TVar W g v
  r : TVar W R TV.none
  var : TVar W s u
  u0 : u.p0 = u0.p0 ∧ u.l0 = u0.l0 ∧ u.c0 = u0.c0 ∧ u.p1 = u0.p1 ∧ u.l1 = u0.l1 ∧ u.c1 = u0.c1
  cols : LHd (fun b => b ≠ s ∧ X.heap.size ≤ b) W X.heap.size (.slice u.p2 u.l2 u.c2) cs
  only : Only (fun b => b = s) X W
  low : s < X.heap.size ∧ R ≠ s ∧ g ≠ s
theorem TkAt.grow {X : World} {g R s : Nat} {v u0 u : TV} {cs : List (List Int)} {W W' : World} (h : TkAt X g R s v u0 u cs W) (hb : Below W.heap.size W W') : TkAt X g R s v u0 u cs W' :=
  ⟨h.gv.below hb, h.r.below hb, h.var.below hb, h.u0, h.cols.only (Only.of_below (T := fun _ => False) hb) (fun _ _ e => e) (fun _ q => ⟨fun e => e, q⟩), h.only.trans (Only.of_below (T := fun _ => False) hb) (fun _ e => e.elim), h.low⟩
theorem TkAt.col {X : World} {g R s : Nat} {v u0 u : TV} {cs cs' : List (List Int)} {W w6 : World} (h : TkAt X g R s v u0 u cs W) {a6 : Option Addr} {l6 c6 : Nat} (hC : LHd (fun b => b ≠ s ∧ X.heap.size ≤ b) w6 X.heap.size (.slice a6 l6 c6) cs') (hg : Only (fun b => (Value.slice u.p2 u.l2 u.c2).ownBlock = some b) W w6) : TkAt X g R s v u0 ⟨u.p0, u.l0, u.c0, u.p1, u.l1, u.c1, a6, l6, c6⟩ cs' (w6.setCell ⟨s, 2, none⟩ (.slice a6 l6 c6)) := by
  have v5 : TVar w6 s u := (hg.block s h.var.lt (fun e => rows_var h.cols h.var e)).trans h.var
  have r5 : TVar w6 R TV.none := (hg.block R h.r.lt (fun e => rows_var h.cols h.r e)).trans h.r
  have g5 : TVar w6 g v := (hg.block g h.gv.lt (fun e => rows_var h.cols h.gv e)).trans h.gv
  have o2 : Only (fun b => b = s) w6 (w6.setCell ⟨s, 2, none⟩ (.slice a6 l6 c6)) := set_only
  refine ⟨(o2.block g g5.lt h.low.2.2).trans g5, (o2.block R r5.lt h.low.2.1).trans r5, heap_setCell_same w6 s 2 _ _ (.slice a6 l6 c6) v5, h.u0, hC.only o2 (fun b e q => ?_) (fun _ q => ⟨q.1, q⟩), (h.only.trans hg (fun b e => .inr (h.cols.own b e).2.1)).trans o2 (fun b e => .inl e), h.low⟩
  subst q
  exact rows_var hC v5 e

set_option maxRecDepth 100000 in
set_option maxHeartbeats 12800000 in
theorem tk_p19 {x0 x1 x2 x3 x4 x5 x6 x7 x9 x10 x12 x13 x14 x15 x16 x17 x18 x19 x20 x21 x22 x23 x24 x25 x26 x27 x28 x29 x30 x31 x32 x33 x34 x35 x36 x37 x38 x39 x40 x41 x42 x43 x44 x45 x46 x47 x48 x49 x50 x51 x52 x53 x54 x55 x56 x57 x58 x59 x60 x61 x62 x63 x64 x65 x66 x67 x68 x69 x70 x71 x72 x73 x74 x75 x76 x77 x78 x79 x80 x81 x82 x83 : Value} {Q : Exit → Act → World → Prop} {W : World} {s n5 k5 base : Nat} {a5 : Option Addr} {u : TV} {cs : List (List Int)} {col : List Int} {Qp : Nat → Prop} (hv : TVar W s u) (hC : LHd Qp W base (.slice u.p2 u.l2 u.c2) cs) (hE : LE Qp W a5 n5 k5 col) (hcs : cs.length < 1000000) (hbase : base ≤ W.heap.size)
    (hN : ∀ (a6 : Option Addr) (l6 c6 : Nat) (w6 : World) (y77 y78 y79 y80 y81 y82 : Value), LHd Qp w6 base (.slice a6 l6 c6) (cs ++ [col]) → Only (fun b => (Value.slice u.p2 u.l2 u.c2).ownBlock = some b) W w6 → Q .normal ⟨#[x0, x1, x2, x3, x4, x5, x6, x7, .pointer (some ⟨s, 0, none⟩), x9, x10, .slice a5 n5 k5, x12, x13, x14, x15, x16, x17, x18, x19, x20, x21, x22, x23, x24, x25, x26, x27, x28, x29, x30, x31, x32, x33, x34, x35, x36, x37, x38, x39, x40, x41, x42, x43, x44, x45, x46, x47, x48, x49, x50, x51, x52, x53, x54, x55, x56, x57, x58, x59, x60, x61, x62, x63, x64, x65, x66, x67, x68, x69, x70, x71, x72, x73, x74, x75, x76, y77, y78, y79, y80, y81, y82, x83], []⟩ (w6.setCell ⟨s, 2, none⟩ (.slice a6 l6 c6))) :
    Code.wp Try.prog (((Try.f16.body.bind (pcBlk 3)).bind (pcFrom 19)).getD .skip) Q ⟨#[x0, x1, x2, x3, x4, x5, x6, x7, .pointer (some ⟨s, 0, none⟩), x9, x10, .slice a5 n5 k5, x12, x13, x14, x15, x16, x17, x18, x19, x20, x21, x22, x23, x24, x25, x26, x27, x28, x29, x30, x31, x32, x33, x34, x35, x36, x37, x38, x39, x40, x41, x42, x43, x44, x45, x46, x47, x48, x49, x50, x51, x52, x53, x54, x55, x56, x57, x58, x59, x60, x61, x62, x63, x64, x65, x66, x67, x68, x69, x70, x71, x72, x73, x74, x75, x76, x77, x78, x79, x80, x81, x82, x83], []⟩ W := by
  conv => arg 2; whnf
  have HN : Hid (∀ (a6 : Option Addr) (l6 c6 : Nat) (w6 : World) (y77 y78 y79 y80 y81 y82 : Value), LHd Qp w6 base (.slice a6 l6 c6) (cs ++ [col]) → Only (fun b => (Value.slice u.p2 u.l2 u.c2).ownBlock = some b) W w6 → Q .normal ⟨#[x0, x1, x2, x3, x4, x5, x6, x7, .pointer (some ⟨s, 0, none⟩), x9, x10, .slice a5 n5 k5, x12, x13, x14, x15, x16, x17, x18, x19, x20, x21, x22, x23, x24, x25, x26, x27, x28, x29, x30, x31, x32, x33, x34, x35, x36, x37, x38, x39, x40, x41, x42, x43, x44, x45, x46, x47, x48, x49, x50, x51, x52, x53, x54, x55, x56, x57, x58, x59, x60, x61, x62, x63, x64, x65, x66, x67, x68, x69, x70, x71, x72, x73, x74, x75, x76, y77, y78, y79, y80, y81, y82, x83], []⟩ (w6.setCell ⟨s, 2, none⟩ (.slice a6 l6 c6))) := hN
  clear hN
  have c2 := hv.cells.2.2.1
  have hba := balloc W (.cells #[.slice a5 n5 k5] 22)
  have hC1 := hC.below hba
  have hE1 := hE.below hba
  have e1 : (W.alloc (.cells #[.slice a5 n5 k5] 22)).cell? ⟨W.heap.size, 0, none⟩ = some (.slice a5 n5 k5) := by simp
  have hbs : base ≤ (W.alloc (.cells #[.slice a5 n5 k5] 22)).heap.size := Nat.le_trans hbase hba.size
  have HY : Hid (∀ v6 w6, LHd Qp w6 base v6 (cs ++ [col]) → (W.alloc (.cells #[.slice a5 n5 k5] 22)).grownBy w6 (Value.slice u.p2 u.l2 u.c2).ownBlock → ∃ a6 l6 c6, v6 = .slice a6 l6 c6 ∧ (w6.cell? ⟨s, 2, none⟩ = some (.slice u.p2 u.l2 u.c2) ∧ w6.frozen? ⟨s, 2, none⟩ = false) ∧ Hid (LHd Qp w6 base (.slice a6 l6 c6) (cs ++ [col]) ∧ Only (fun b => (Value.slice u.p2 u.l2 u.c2).ownBlock = some b) W w6)) := fun v6 w6 h6 g6 => by
    obtain ⟨a6, c6, e, -⟩ := h6.row
    have hv6 : TVar w6 s u := (g6.block s (hv.below hba).lt (fun e => rows_var hC hv e.symm)).trans (hv.below hba)
    subst e
    exact ⟨a6, _, c6, rfl, ⟨hv6.cells.2.2.1, hv6.cells.2.2.2 2⟩, h6, (Only.of_below hba).trans (Only.of_grown g6 (fun b e => e)) (fun b e => .inl e)⟩
  clear hv hC hE hba hbase
  go_wp2_with (at_builtin; refine wpList_appLH _ rfl _ _ 23 rfl Try.underlying23 base _ cs rfl hC1 W.heap.size a5 n5 k5 col rfl e1 hE1 hcs hbs ?_)
  intro v6 w6 h6 g6
  obtain ⟨a6, l6, c6, rfl, ⟨e4, e5⟩, hG⟩ := HY.out v6 w6 h6 g6
  clear h6 g6 HY hC1 hE1 e1 c2
  go_wp2_with fail
  exact HN.out _ _ _ _ _ _ _ _ _ _ hG.out.1 hG.out.2

set_option maxRecDepth 100000 in
set_option maxHeartbeats 12800000 in
theorem tk_p20 {x0 x1 x2 x3 x5 x6 x7 x9 x10 x11 x12 x13 x14 x15 x16 x17 x18 x19 x20 x21 x22 x23 x24 x25 x26 x27 x28 x29 x30 x31 x32 x33 x34 x35 x36 x37 x38 x39 x40 x41 x42 x43 x44 x45 x46 x47 x48 x49 x50 x51 x52 x53 x54 x55 x56 x57 x58 x59 x60 x61 x62 x63 x64 x65 x66 x67 x68 x69 x70 x71 x72 x73 x74 x75 x76 x77 x78 x79 x80 x81 x82 x83 : Value} {Q : Exit → Act → World → Prop} {W : World} {R s : Nat} {u : TV} (hr : TVar W R TV.none) (hv : TVar W s u)
    (hR : ∀ (y83 : Value), Q .ret ⟨#[x0, x1, x2, x3, .pointer (some ⟨R, 0, none⟩), .int .i64 0, x6, x7, .pointer (some ⟨s, 0, none⟩), x9, x10, x11, x12, x13, x14, x15, x16, x17, x18, x19, x20, x21, x22, x23, x24, x25, x26, x27, x28, x29, x30, x31, x32, x33, x34, x35, x36, x37, x38, x39, x40, x41, x42, x43, x44, x45, x46, x47, x48, x49, x50, x51, x52, x53, x54, x55, x56, x57, x58, x59, x60, x61, x62, x63, x64, x65, x66, x67, x68, x69, x70, x71, x72, x73, x74, x75, x76, x77, x78, x79, x80, x81, x82, y83], []⟩ (((W.setCell ⟨R, 0, none⟩ (.slice u.p0 u.l0 u.c0)).setCell ⟨R, 1, none⟩ (.slice u.p1 u.l1 u.c1)).setCell ⟨R, 2, none⟩ (.slice u.p2 u.l2 u.c2))) :
    Code.wp Try.prog ((Try.f16.body.bind (pcFrom 20)).getD .skip) Q ⟨#[x0, x1, x2, x3, .pointer (some ⟨R, 0, none⟩), x5, x6, x7, .pointer (some ⟨s, 0, none⟩), x9, x10, x11, x12, x13, x14, x15, x16, x17, x18, x19, x20, x21, x22, x23, x24, x25, x26, x27, x28, x29, x30, x31, x32, x33, x34, x35, x36, x37, x38, x39, x40, x41, x42, x43, x44, x45, x46, x47, x48, x49, x50, x51, x52, x53, x54, x55, x56, x57, x58, x59, x60, x61, x62, x63, x64, x65, x66, x67, x68, x69, x70, x71, x72, x73, x74, x75, x76, x77, x78, x79, x80, x81, x82, x83], []⟩ W := by
  conv => arg 2; whnf
  have HR : Hid (∀ (y83 : Value), Q .ret ⟨#[x0, x1, x2, x3, .pointer (some ⟨R, 0, none⟩), .int .i64 0, x6, x7, .pointer (some ⟨s, 0, none⟩), x9, x10, x11, x12, x13, x14, x15, x16, x17, x18, x19, x20, x21, x22, x23, x24, x25, x26, x27, x28, x29, x30, x31, x32, x33, x34, x35, x36, x37, x38, x39, x40, x41, x42, x43, x44, x45, x46, x47, x48, x49, x50, x51, x52, x53, x54, x55, x56, x57, x58, x59, x60, x61, x62, x63, x64, x65, x66, x67, x68, x69, x70, x71, x72, x73, x74, x75, x76, x77, x78, x79, x80, x81, x82, y83], []⟩ (((W.setCell ⟨R, 0, none⟩ (.slice u.p0 u.l0 u.c0)).setCell ⟨R, 1, none⟩ (.slice u.p1 u.l1 u.c1)).setCell ⟨R, 2, none⟩ (.slice u.p2 u.l2 u.c2))) := hR
  clear hR
  obtain ⟨c0, c1, c2, -⟩ := hv.cells
  clear hv
  obtain ⟨r0, r1, r2, fz⟩ := hr.cells
  have f0 := fz 0
  have f1 := fz 1
  have f2 := fz 2
  unfold TV.none at r0 r1 r2
  clear fz hr
  go_wp2_with fail
  exact HR.out  _ 

set_option maxRecDepth 100000 in
set_option maxHeartbeats 12800000 in
theorem tk_l0 {x0 x3 x5 x6 x7 x8 x9 x10 x11 x12 x13 x14 x15 x16 x17 x18 x19 x20 x21 x22 x23 x24 x25 x26 x27 x28 x29 x30 x31 x32 x33 x34 x35 x36 x37 x38 x39 x40 x41 x42 x43 x44 x45 x46 x47 x48 x49 x50 x51 x52 x53 x54 x55 x56 x57 x58 x59 x60 x61 x62 x63 x64 x65 x66 x67 x68 x69 x70 x71 x72 x73 x74 x75 x76 x77 x78 x79 x80 x81 x82 x83 : Value} {Q : Exit → Act → World → Prop} {W : World} {g R l c : Nat} {p : Option Addr} {v : TV} {is xs : List Int} (hr : TVar W R TV.none) (hv : TVar W g v) (hLi : Lsts W v.p0 v.l0 v.c0 is) (hL : Lsts W p l c xs)
    (hN : ∀ (wx : World) (y5 y9 y32 y33 y34 y35 y36 y37 y38 y39 y40 y41 y42 y43 y44 y45 y46 : Value), Below W.heap.size W wx → (∀ x, x ∈ xs → x ∈ is) → Q .normal ⟨#[x0, .slice p l c, .pointer (some ⟨g, 0, none⟩), x3, .pointer (some ⟨R, 0, none⟩), y5, x6, x7, x8, y9, x10, x11, x12, x13, x14, x15, x16, x17, x18, x19, x20, x21, x22, x23, x24, x25, x26, x27, x28, x29, x30, x31, y32, y33, y34, y35, y36, y37, y38, y39, y40, y41, y42, y43, y44, y45, y46, x47, x48, x49, x50, x51, x52, x53, x54, x55, x56, x57, x58, x59, x60, x61, x62, x63, x64, x65, x66, x67, x68, x69, x70, x71, x72, x73, x74, x75, x76, x77, x78, x79, x80, x81, x82, x83], []⟩ wx)
    (hR : ∀ (wx : World) (y9 y32 y33 y34 y35 y36 y37 y38 y39 y40 y41 y42 y43 y44 y45 y46 : Value), Below W.heap.size W wx → ¬ (∀ x, x ∈ xs → x ∈ is) → Q .ret ⟨#[x0, .slice p l c, .pointer (some ⟨g, 0, none⟩), x3, .pointer (some ⟨R, 0, none⟩), .int .i64 20, x6, x7, x8, y9, x10, x11, x12, x13, x14, x15, x16, x17, x18, x19, x20, x21, x22, x23, x24, x25, x26, x27, x28, x29, x30, x31, y32, y33, y34, y35, y36, y37, y38, y39, y40, y41, y42, y43, y44, y45, y46, x47, x48, x49, x50, x51, x52, x53, x54, x55, x56, x57, x58, x59, x60, x61, x62, x63, x64, x65, x66, x67, x68, x69, x70, x71, x72, x73, x74, x75, x76, x77, x78, x79, x80, x81, x82, x83], []⟩ (((wx.setCell ⟨R, 0, none⟩ (.slice none 0 0)).setCell ⟨R, 1, none⟩ (.slice none 0 0)).setCell ⟨R, 2, none⟩ (.slice none 0 0))) :
    Code.wp Try.prog ((Try.f16.body.bind (pcAt 6)).getD .skip) Q ⟨#[x0, .slice p l c, .pointer (some ⟨g, 0, none⟩), x3, .pointer (some ⟨R, 0, none⟩), x5, x6, x7, x8, x9, x10, x11, x12, x13, x14, x15, x16, x17, x18, x19, x20, x21, x22, x23, x24, x25, x26, x27, x28, x29, x30, x31, x32, x33, x34, x35, x36, x37, x38, x39, x40, x41, x42, x43, x44, x45, x46, x47, x48, x49, x50, x51, x52, x53, x54, x55, x56, x57, x58, x59, x60, x61, x62, x63, x64, x65, x66, x67, x68, x69, x70, x71, x72, x73, x74, x75, x76, x77, x78, x79, x80, x81, x82, x83], []⟩ W := by
  conv => arg 2; whnf
  have HN : Hid (∀ (wx : World) (y5 y9 y32 y33 y34 y35 y36 y37 y38 y39 y40 y41 y42 y43 y44 y45 y46 : Value), Below W.heap.size W wx → (∀ x, x ∈ xs → x ∈ is) → Q .normal ⟨#[x0, .slice p l c, .pointer (some ⟨g, 0, none⟩), x3, .pointer (some ⟨R, 0, none⟩), y5, x6, x7, x8, y9, x10, x11, x12, x13, x14, x15, x16, x17, x18, x19, x20, x21, x22, x23, x24, x25, x26, x27, x28, x29, x30, x31, y32, y33, y34, y35, y36, y37, y38, y39, y40, y41, y42, y43, y44, y45, y46, x47, x48, x49, x50, x51, x52, x53, x54, x55, x56, x57, x58, x59, x60, x61, x62, x63, x64, x65, x66, x67, x68, x69, x70, x71, x72, x73, x74, x75, x76, x77, x78, x79, x80, x81, x82, x83], []⟩ wx) := hN
  have HR : Hid (∀ (wx : World) (y9 y32 y33 y34 y35 y36 y37 y38 y39 y40 y41 y42 y43 y44 y45 y46 : Value), Below W.heap.size W wx → ¬ (∀ x, x ∈ xs → x ∈ is) → Q .ret ⟨#[x0, .slice p l c, .pointer (some ⟨g, 0, none⟩), x3, .pointer (some ⟨R, 0, none⟩), .int .i64 20, x6, x7, x8, y9, x10, x11, x12, x13, x14, x15, x16, x17, x18, x19, x20, x21, x22, x23, x24, x25, x26, x27, x28, x29, x30, x31, y32, y33, y34, y35, y36, y37, y38, y39, y40, y41, y42, y43, y44, y45, y46, x47, x48, x49, x50, x51, x52, x53, x54, x55, x56, x57, x58, x59, x60, x61, x62, x63, x64, x65, x66, x67, x68, x69, x70, x71, x72, x73, x74, x75, x76, x77, x78, x79, x80, x81, x82, x83], []⟩ (((wx.setCell ⟨R, 0, none⟩ (.slice none 0 0)).setCell ⟨R, 1, none⟩ (.slice none 0 0)).setCell ⟨R, 2, none⟩ (.slice none 0 0))) := hR
  clear hN hR
  have hm := hL.hmax
  have hc := hL.hcap
  have hlen := hL.hlen
  unfold maxLen at hm
  refine pcSeq (fun Q1 n1 r1 _ => ?_)
  go_wp2_with fail
  refine n1 _ _ (pcBlock (fun Q2 n2 e2 r2 => ?_))
  go_loopw [9] (fun v9 wr => ∃ i : Nat, v9 = .int .i64 (i : Int) ∧ i ≤ l ∧ (∀ j, j < i → xs.getD j 0 ∈ is) ∧ Below W.heap.size W wr) (fun v9 _ => l - (intOf v9).toNat)
  case atStart => exact ⟨0, rfl, Nat.zero_le _, fun j hj => absurd hj (by omega), Below.refl _ _⟩
  case round =>
    obtain ⟨i, rfl, hi, hall, hb⟩ := hrel
    refine pcSeq (fun Q3 n3 r3 e3 => tk_t7 hi ?_ ?_)
    · intros
      rename_i hlt
      refine n3 _ _ (pcSeq (fun Q4 n4 r4 e4 => pcBlock (fun Q5 n5 e5 r5 => ?_)))
      obtain ⟨b, off, rfl, mi⟩ := (hL.below hb).at hlt
      refine tk_p9 (hr.below hb) (hv.below hb) (hLi.below hb) mi hlt ?_ ?_
      · intro wx
        intros
        rename_i hbx hx
        refine n5 _ _ (n4 _ _ (tk_p8 (by omega) ?_))
        intros
        dsimp only [Exit.then]
        go_roundw
        case rel => exact ⟨i + 1, by go_num, hlt, fun j hj => by
          by_cases e : j = i
          · rw [e]; exact hx
          · exact hall j (by omega), bthen hb hbx⟩
        case measure => simp [intOf]; omega
      · intro wx
        intros
        rename_i hbx hx
        have hno : ¬ (∀ x, x ∈ xs → x ∈ is) := fun q => hx (q _ (mem_getD (by omega)))
        exact r5 _ _ (r4 _ _ (r2 _ _ (HR.out _ _ _ _ _ _ _ _ _ _ _ _ _ _ _ _ _ (bthen hb hbx) hno)))
    · intros
      rename_i he
      subst he
      have hyes : ∀ x, x ∈ xs → x ∈ is := fun x hx => by
        have h1 := idx_lt.2 hx
        have := hall (idx xs x) (by omega)
        rw [idx_get hx] at this
        exact this
      exact e3 _ _ _ (e2 _ _ (HN.out _ _ _ _ _ _ _ _ _ _ _ _ _ _ _ _ _ _ hb hyes))

end Go.Proofs.Ytaiikhbfnfcalaa
