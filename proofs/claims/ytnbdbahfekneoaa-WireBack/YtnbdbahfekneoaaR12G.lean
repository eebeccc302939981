/-
  The document's Decode (wire): the four numbers. Written by mk/ref12g.py.
  The document's Decode (wire): the message's variable, its lists. Written by mk/ref12g.py.
  The document's Decode (wire): the natural numbers. Written by mk/ref12g.py.
  The document's Decode (wire): Encode again, and the end. Written by mk/ref12g.py.
  The document's Decode (wire): its beginning. Written by mk/ref12g.py.
-/
import Derived.Test.YtnbdbahfekneoaaW12Dec
import Derived.Test.YtnbdbahfekneoaaBytB
import Derived.Test.YtnbdbahfekneoaaRef12E
namespace Go.Proofs.Ytnbdbahfekneoaa
open Go.RowKit

/-- Four numbers in an array. -/
def arr4 (ns : List Nat) : Array Value := #[.int .i64 ((ns.getD 0 0 : Nat) : Int), .int .i64 ((ns.getD 1 0 : Nat) : Int), .int .i64 ((ns.getD 2 0 : Nat) : Int), .int .i64 ((ns.getD 3 0 : Nat) : Int)]
theorem arr4_snoc {ns : List Nat} (n : Nat) (h : ns.length < 4) : (arr4 ns).setIfInBounds ns.length (.int .i64 (n : Int)) = arr4 (ns ++ [n]) := by
  match ns, h with
  | [], _ => rfl
  | [_], _ => rfl
  | [_, _], _ => rfl
  | [_, _, _], _ => rfl
theorem arr4_get {ns : List Nat} {i : Nat} (h : i < 4) : (arr4 ns)[i]? = some (.int .i64 ((ns.getD i 0 : Nat) : Int)) := by
  have : i = 0 ∨ i = 1 ∨ i = 2 ∨ i = 3 := by omega
  rcases this with rfl | rfl | rfl | rfl <;> rfl

set_option maxRecDepth 100000 in
set_option maxHeartbeats 12800000 in
theorem dec_l1 {x1 x3 x6 x7 x8 x9 x10 x11 x12 x13 x14 x15 x16 x17 x18 x19 x20 x21 x22 x23 x24 x25 x26 x27 x28 x29 x30 x31 x32 x33 x34 x35 x36 x37 x38 x39 x40 x41 x42 x43 x44 x45 x46 x47 x48 x49 x50 x51 x52 x53 x54 x55 x56 x57 x58 x59 x60 x61 x62 x63 x64 x65 x66 x67 x68 x69 x70 x71 x72 x73 x74 x75 x76 x77 x78 x79 x80 x81 x82 x83 x84 x85 x86 x87 x88 x89 x90 x91 x92 x93 x94 x95 x96 x97 x98 x99 x100 x101 x102 x103 x104 x105 x106 x107 x108 x109 x110 x111 x112 x113 x114 x115 x116 x117 x118 x119 x120 x121 x122 x123 x124 : Value} {X0 : Value} {REST : Code} {post : Ending → World → Prop} {V W : World} {G g h : Nat} {L0 : List Int} (hG : MsgAt V G 0 0 0 0 none 0 0 none 0 0 none 0 0) (hGg : G ≠ g) (hgV : g < V.heap.size) (hh : V.heap.size ≤ h) (hgr : V.grownBy W (some g)) (hR : RRdQ (· < V.heap.size) W g L0) (hA : W.heap[h]? = some (.cells (arr4 []) 64 (0, 0)))
    (hEnd : ∀ wx : World, V.grownBy wx (some g) → (∀ hd T y, CodesOf hd y → L0 = y ++ T → hd.length = 4 → (∀ m, m ∈ hd → m ≤ 1073741824) → False) → post (.returned (.tuple #[.agg #[.int .i64 0, .int .i64 0, .int .i64 0, .int .i64 0, .slice none 0 0, .slice none 0 0, .slice none 0 0], .int .i64 16])) (((((((wx.setCell ⟨G, 0, none⟩ (.int .i64 0)).setCell ⟨G, 1, none⟩ (.int .i64 0)).setCell ⟨G, 2, none⟩ (.int .i64 0)).setCell ⟨G, 3, none⟩ (.int .i64 0)).setCell ⟨G, 4, none⟩ (.slice none 0 0)).setCell ⟨G, 5, none⟩ (.slice none 0 0)).setCell ⟨G, 6, none⟩ (.slice none 0 0)))
    (hRest : ∀ (wx : World) (ns : List Nat) (R : List Int) (y1 y3 y6 y7 y8 y9 y10 y11 y12 y13 y14 y15 y16 y17 y18 y19 y20 y21 y22 y23 y24 y25 y26 y27 y28 y29 y30 y31 y32 y33 y34 y35 y36 y37 y38 y39 y40 y41 y42 y43 y44 y45 y46 y47 y48 y49 y50 y51 y52 y53 y54 y55 y56 y57 y58 y59 y60 y61 y62 y63 y64 y65 y66 y67 y68 y69 y70 y71 y72 y73 y74 y75 y76 y77 y78 y79 y80 y81 y82 y83 y84 y85 y86 y87 y88 y89 y90 y91 y92 y93 y94 y95 y96 y97 y98 y99 y100 y101 y102 y103 y104 y105 y106 y107 y108 y109 y110 y111 y112 y113 y114 y115 y116 y117 y118 y119 y120 y121 y122 y123 y124 : Value), ns.length = 4 → (∀ m, m ∈ ns → m ≤ 1073741824) → wx.heap[h]? = some (.cells (arr4 ns) 64 (0, 0)) → RRdQ (· < V.heap.size) wx g R → V.grownBy wx (some g) → (∀ hd T y, CodesOf hd y → L0 = y ++ T → hd.length = 4 → (∀ m, m ∈ hd → m ≤ 1073741824) → ns = hd ∧ R = T) → Code.wp Try.prog REST (bodyPost Try.prog Try.f14 post) ⟨#[X0, y1, .pointer (some ⟨G, 0, none⟩), y3, .pointer (some ⟨g, 0, none⟩), .pointer (some ⟨h, 0, none⟩), y6, y7, y8, y9, y10, y11, y12, y13, y14, y15, y16, y17, y18, y19, y20, y21, y22, y23, y24, y25, y26, y27, y28, y29, y30, y31, y32, y33, y34, y35, y36, y37, y38, y39, y40, y41, y42, y43, y44, y45, y46, y47, y48, y49, y50, y51, y52, y53, y54, y55, y56, y57, y58, y59, y60, y61, y62, y63, y64, y65, y66, y67, y68, y69, y70, y71, y72, y73, y74, y75, y76, y77, y78, y79, y80, y81, y82, y83, y84, y85, y86, y87, y88, y89, y90, y91, y92, y93, y94, y95, y96, y97, y98, y99, y100, y101, y102, y103, y104, y105, y106, y107, y108, y109, y110, y111, y112, y113, y114, y115, y116, y117, y118, y119, y120, y121, y122, y123, y124], []⟩ wx) :
    Code.wp Try.prog (.seq ((Try.f14.body.bind (stmtAt 5)).getD .skip) REST) (bodyPost Try.prog Try.f14 post) ⟨#[X0, x1, .pointer (some ⟨G, 0, none⟩), x3, .pointer (some ⟨g, 0, none⟩), .pointer (some ⟨h, 0, none⟩), x6, x7, x8, x9, x10, x11, x12, x13, x14, x15, x16, x17, x18, x19, x20, x21, x22, x23, x24, x25, x26, x27, x28, x29, x30, x31, x32, x33, x34, x35, x36, x37, x38, x39, x40, x41, x42, x43, x44, x45, x46, x47, x48, x49, x50, x51, x52, x53, x54, x55, x56, x57, x58, x59, x60, x61, x62, x63, x64, x65, x66, x67, x68, x69, x70, x71, x72, x73, x74, x75, x76, x77, x78, x79, x80, x81, x82, x83, x84, x85, x86, x87, x88, x89, x90, x91, x92, x93, x94, x95, x96, x97, x98, x99, x100, x101, x102, x103, x104, x105, x106, x107, x108, x109, x110, x111, x112, x113, x114, x115, x116, x117, x118, x119, x120, x121, x122, x123, x124], []⟩ W := by
  conv => arg 2; arg 1; whnf
  have HEnd : Hid (∀ wx : World, V.grownBy wx (some g) → (∀ hd T y, CodesOf hd y → L0 = y ++ T → hd.length = 4 → (∀ m, m ∈ hd → m ≤ 1073741824) → False) → post (.returned (.tuple #[.agg #[.int .i64 0, .int .i64 0, .int .i64 0, .int .i64 0, .slice none 0 0, .slice none 0 0, .slice none 0 0], .int .i64 16])) (((((((wx.setCell ⟨G, 0, none⟩ (.int .i64 0)).setCell ⟨G, 1, none⟩ (.int .i64 0)).setCell ⟨G, 2, none⟩ (.int .i64 0)).setCell ⟨G, 3, none⟩ (.int .i64 0)).setCell ⟨G, 4, none⟩ (.slice none 0 0)).setCell ⟨G, 5, none⟩ (.slice none 0 0)).setCell ⟨G, 6, none⟩ (.slice none 0 0))) := hEnd
  have HRest : Hid (∀ (wx : World) (ns : List Nat) (R : List Int) (y1 y3 y6 y7 y8 y9 y10 y11 y12 y13 y14 y15 y16 y17 y18 y19 y20 y21 y22 y23 y24 y25 y26 y27 y28 y29 y30 y31 y32 y33 y34 y35 y36 y37 y38 y39 y40 y41 y42 y43 y44 y45 y46 y47 y48 y49 y50 y51 y52 y53 y54 y55 y56 y57 y58 y59 y60 y61 y62 y63 y64 y65 y66 y67 y68 y69 y70 y71 y72 y73 y74 y75 y76 y77 y78 y79 y80 y81 y82 y83 y84 y85 y86 y87 y88 y89 y90 y91 y92 y93 y94 y95 y96 y97 y98 y99 y100 y101 y102 y103 y104 y105 y106 y107 y108 y109 y110 y111 y112 y113 y114 y115 y116 y117 y118 y119 y120 y121 y122 y123 y124 : Value), ns.length = 4 → (∀ m, m ∈ ns → m ≤ 1073741824) → wx.heap[h]? = some (.cells (arr4 ns) 64 (0, 0)) → RRdQ (· < V.heap.size) wx g R → V.grownBy wx (some g) → (∀ hd T y, CodesOf hd y → L0 = y ++ T → hd.length = 4 → (∀ m, m ∈ hd → m ≤ 1073741824) → ns = hd ∧ R = T) → Code.wp Try.prog REST (bodyPost Try.prog Try.f14 post) ⟨#[X0, y1, .pointer (some ⟨G, 0, none⟩), y3, .pointer (some ⟨g, 0, none⟩), .pointer (some ⟨h, 0, none⟩), y6, y7, y8, y9, y10, y11, y12, y13, y14, y15, y16, y17, y18, y19, y20, y21, y22, y23, y24, y25, y26, y27, y28, y29, y30, y31, y32, y33, y34, y35, y36, y37, y38, y39, y40, y41, y42, y43, y44, y45, y46, y47, y48, y49, y50, y51, y52, y53, y54, y55, y56, y57, y58, y59, y60, y61, y62, y63, y64, y65, y66, y67, y68, y69, y70, y71, y72, y73, y74, y75, y76, y77, y78, y79, y80, y81, y82, y83, y84, y85, y86, y87, y88, y89, y90, y91, y92, y93, y94, y95, y96, y97, y98, y99, y100, y101, y102, y103, y104, y105, y106, y107, y108, y109, y110, y111, y112, y113, y114, y115, y116, y117, y118, y119, y120, y121, y122, y123, y124], []⟩ wx) := hRest
  have HG : Hid (MsgAt V G 0 0 0 0 none 0 0 none 0 0 none 0 0) := hG
  have hGV := hG.lt
  clear hEnd hRest hG
  go_wp2_with fail
  go_loopw [6] (fun v6 wr => ∃ (i : Nat) (ns : List Nat) (R : List Int), v6 = .int .i64 i ∧ i ≤ 4 ∧ ns.length = i ∧ Hid (∀ m, m ∈ ns → m ≤ 1073741824) ∧ wr.heap[h]? = some (.cells (arr4 ns) 64 (0, 0)) ∧ RRdQ (· < V.heap.size) wr g R ∧ V.grownBy wr (some g) ∧ Hid (∀ hd T y, CodesOf hd y → L0 = y ++ T → hd.length = 4 → (∀ m, m ∈ hd → m ≤ 1073741824) → ns = hd.take i ∧ ∃ y', CodesOf (hd.drop i) y' ∧ R = y' ++ T)) (fun v6 _ => 4 - (intOf v6).toNat)
  case atStart => exact ⟨0, [], L0, rfl, Nat.zero_le _, rfl, fun m hm => absurd hm (by simp), hA, hR, hgr, fun hd T y h1 h2 h3 h4 => ⟨by simp, y, h1, h2⟩⟩
  case round =>
    clear hA hR hgr
    obtain ⟨i, ns, R, rfl, hi, hnl, HB4, hA, hR, hgr, HF⟩ := hrel
    by_cases hlt : i < 4
    · have hlti : (i : Int) < 4 := by omega
      have HA : Hid (wr.heap[h]? = some (.cells (arr4 ns) 64 (0, 0))) := hA
      have hhl : h < wr.heap.size := (Array.getElem?_eq_some_iff.1 hA).1
      clear hA HRest
      go_wp2_with fail
      refine (r9rnum_any g R 1073741824 _ hR).mono ?_
      rintro e w2 ⟨n, e2, R2, rfl, hr2, hA2, hg2⟩
      have hnb := hr2.most
      have hgg := grown_then hgr hg2
      have hAh : w2.heap[h]? = some (.cells (arr4 ns) 64 (0, 0)) := (hg2.block h hhl (by simp; omega)).trans HA.out
      have STEP2 : Hid (∀ hd T y, CodesOf hd y → L0 = y ++ T → hd.length = 4 → (∀ m, m ∈ hd → m ≤ 1073741824) → e2 = 0 ∧ ns ++ [n] = hd.take (i + 1) ∧ ∃ y', CodesOf (hd.drop (i + 1)) y' ∧ R2 = y' ++ T) := fun hd T y h1 h2 h3 h4 => by
        obtain ⟨f2, y', f3, f4⟩ := HF.out hd T y h1 h2 h3 h4
        have hil : i < hd.length := by omega
        rw [List.drop_eq_getElem_cons hil] at f3
        obtain ⟨c, r, k1, k2, rfl⟩ := f3
        rw [List.append_assoc] at f4
        have hm := h4 _ (List.getElem_mem hil)
        obtain ⟨q1, q2, q3⟩ := hr2.at k1 hm (by omega) f4
        refine ⟨q2, ?_, r, k2, q3⟩
        rw [q1, f2, List.take_add_one]
        simp [hil]
      clear HA HF hr2 hgr hg2 hR
      by_cases z2 : e2 = 0
      case neg =>
        have hGw : MsgAt w2 G 0 0 0 0 none 0 0 none 0 0 none 0 0 := HG.out.kept (hgg.block G hGV (by simp; omega))
        obtain ⟨⟨r0, r1, r2, r3, r4, r5, r6⟩, fz⟩ := hGw.cells
        have HB : Hid (post (.returned (.tuple #[.agg #[.int .i64 0, .int .i64 0, .int .i64 0, .int .i64 0, .slice none 0 0, .slice none 0 0, .slice none 0 0], .int .i64 16])) (((((((w2.setCell ⟨G, 0, none⟩ (.int .i64 0)).setCell ⟨G, 1, none⟩ (.int .i64 0)).setCell ⟨G, 2, none⟩ (.int .i64 0)).setCell ⟨G, 3, none⟩ (.int .i64 0)).setCell ⟨G, 4, none⟩ (.slice none 0 0)).setCell ⟨G, 5, none⟩ (.slice none 0 0)).setCell ⟨G, 6, none⟩ (.slice none 0 0))) := HEnd.out w2 hgg (fun hd T y h1 h2 h3 h4 => z2 (STEP2.out hd T y h1 h2 h3 h4).1)
        have z2d : (e2 != 0) = true := by simp [z2]
        have z2e : (e2 == 0) = false := by simp [z2]
        have f0 := fz 0
        have f1 := fz 1
        have f2 := fz 2
        have f3 := fz 3
        have f4 := fz 4
        have f5 := fz 5
        have f6 := fz 6
        clear HEnd STEP2 hA2 hAh hgg fz hGw z2 HB4
        go_wp2_with fail
        exact bodyPost_ret (v := .tuple #[.agg #[.int .i64 0, .int .i64 0, .int .i64 0, .int .i64 0, .slice none 0 0, .slice none 0 0, .slice none 0 0], .int .i64 16]) (by simp [results, Try.results14, go_sem, r0, r1, r2, r3, r4, r5, r6]) rfl HB.out
      subst z2
      have hwx : IntKind.i64.wrap (n : Int) = n := by simp [IntKind.wrap, IntKind.signed, IntKind.bits]; omega
      have hc1 : w2.cell? ⟨h, i, none⟩ = some (.int .i64 ((ns.getD i 0 : Nat) : Int)) := by rw [cell_of_row _ _ _ _ _ _ hAh, arr4_get hlt]
      have hf1 : w2.frozen? ⟨h, i, none⟩ = false := frozen_of_row _ _ _ _ _ hAh
      have hb3 : Below V.heap.size w2 (w2.setCell ⟨h, i, none⟩ (.int .i64 (n : Int))) := (Below.refl _ _).setCell (p := ⟨h, i, none⟩) hh _
      have hA3 : (w2.setCell ⟨h, i, none⟩ (.int .i64 (n : Int))).heap[h]? = some (.cells (arr4 (ns ++ [n])) 64 (0, 0)) := by
        have := heap_setCell_same w2 h i _ _ (.int .i64 (n : Int)) hAh
        rw [this, ← hnl, arr4_snoc n (by omega)]
      have hR3 := hA2.other hgV hb3
      have hgg3 := grown_low hgg hb3
      have HN : Hid ((∀ m, m ∈ ns ++ [n] → m ≤ 1073741824) ∧ (ns ++ [n]).length = i + 1) := ⟨fun m hm => by
        rcases List.mem_append.1 hm with q | q
        · exact HB4.out m q
        · simp at q
          omega, by simp [hnl]⟩
      have HS2 : Hid (∀ hd T y, CodesOf hd y → L0 = y ++ T → hd.length = 4 → (∀ m, m ∈ hd → m ≤ 1073741824) → ns ++ [n] = hd.take (i + 1) ∧ ∃ y', CodesOf (hd.drop (i + 1)) y' ∧ R2 = y' ++ T) := fun hd T y h1 h2 h3 h4 => (STEP2.out hd T y h1 h2 h3 h4).2
      have HX : Hid ((w2.setCell ⟨h, i, none⟩ (.int .i64 (n : Int))).heap[h]? = some (.cells (arr4 (ns ++ [n])) 64 (0, 0)) ∧ RRdQ (· < V.heap.size) (w2.setCell ⟨h, i, none⟩ (.int .i64 (n : Int))) g R2 ∧ V.grownBy (w2.setCell ⟨h, i, none⟩ (.int .i64 (n : Int))) (some g)) := ⟨hA3, hR3, hgg3⟩
      clear hA3 hR3 hgg3 hb3 hAh hgg hA2 STEP2 HB4 HEnd
      go_wp2_with fail
      go_roundw
      case rel => exact ⟨i + 1, ns ++ [n], R2, by go_num, by omega, HN.out.2, HN.out.1, HX.out.1, HX.out.2.1, HX.out.2.2, HS2.out⟩
      case measure => simp [intOf]; omega
    · obtain rfl : i = 4 := by omega
      have HX : Hid (wr.heap[h]? = some (.cells (arr4 ns) 64 (0, 0)) ∧ RRdQ (· < V.heap.size) wr g R ∧ V.grownBy wr (some g)) := ⟨hA, hR, hgr⟩
      have HY : Hid (∀ hd T y, CodesOf hd y → L0 = y ++ T → hd.length = 4 → (∀ m, m ∈ hd → m ≤ 1073741824) → ns = hd ∧ R = T) := fun hd T y h1 h2 h3 h4 => by
        obtain ⟨f1, y', f2, f3⟩ := HF.out hd T y h1 h2 h3 h4
        rw [List.drop_eq_nil_of_le (by omega)] at f2
        have e : y' = [] := f2
        rw [e] at f3
        exact ⟨by rw [f1, List.take_of_length_le (by omega)], f3⟩
      clear HEnd HF hA hR hgr
      go_wp2_with fail
      exact HRest.out _ ns R _ _ _ _ _ _ _ _ _ _ _ _ _ _ _ _ _ _ _ _ _ _ _ _ _ _ _ _ _ _ _ _ _ _ _ _ _ _ _ _ _ _ _ _ _ _ _ _ _ _ _ _ _ _ _ _ _ _ _ _ _ _ _ _ _ _ _ _ _ _ _ _ _ _ _ _ _ _ _ _ _ _ _ _ _ _ _ _ _ _ _ _ _ _ _ _ _ _ _ _ _ _ _ _ _ _ _ _ _ _ _ _ _ _ _ _ _ _ _ _ _ hnl HB4.out HX.out.1 HX.out.2.1 HX.out.2.2 HY.out
end Go.Proofs.Ytnbdbahfekneoaa

namespace Go.Proofs.Ytnbdbahfekneoaa
open Go.RowKit

set_option maxRecDepth 100000 in
set_option maxHeartbeats 12800000 in
theorem dec_s12 {x1 x3 x6 x7 x8 x9 x10 x11 x12 x13 x14 x15 x16 x17 x18 x19 x20 x21 x22 x23 x24 x25 x26 x27 x28 x29 x30 x31 x32 x33 x34 x35 x36 x37 x38 x39 x40 x41 x42 x43 x44 x45 x46 x47 x48 x49 x50 x51 x52 x53 x54 x55 x56 x57 x58 x59 x60 x61 x62 x63 x64 x65 x66 x67 x68 x69 x70 x71 x72 x73 x74 x75 x76 x77 x78 x79 x80 x81 x82 x83 x84 x85 x86 x87 x88 x89 x90 x91 x92 x93 x94 x95 x96 x97 x98 x99 x100 x101 x102 x103 x104 x105 x106 x107 x108 x109 x110 x111 x112 x113 x114 x115 x116 x117 x118 x119 x120 x121 x122 x123 x124 : Value} {X0 : Value} {REST : Code} {post : Ending → World → Prop} {W : World} {G g h : Nat} {n0 n1 n2 n3 : Int} (hA : W.heap[h]? = some (.cells #[.int .i64 n0, .int .i64 n1, .int .i64 n2, .int .i64 n3] 64 (0, 0)))
    (hRest : ∀ (y1 y3 y5 y6 y7 y8 y10 y11 y12 y13 y14 y15 y16 y17 y18 y19 y20 y21 y22 y23 y24 y25 y26 y27 y28 y29 y30 y31 y32 y33 y34 y35 y36 y37 y38 y39 y40 y41 y42 y43 y44 y45 y46 y47 y48 y49 y50 y51 y52 y53 y54 y55 y56 y57 y58 y59 y60 y61 y62 y63 y64 y65 y66 y67 y68 y69 y70 y71 y72 y73 y74 y75 y76 y77 y78 y79 y80 y81 y82 y83 y84 y85 y86 y87 y88 y89 y90 y91 y92 y93 y94 y95 y96 y97 y98 y99 y100 y101 y102 y103 y104 y105 y106 y107 y108 y109 y110 y111 y112 y113 y114 y115 y116 y117 y118 y119 y120 y121 y122 y123 y124 : Value), Code.wp Try.prog REST (bodyPost Try.prog Try.f14 post) ⟨#[X0, y1, .pointer (some ⟨G, 0, none⟩), y3, .pointer (some ⟨g, 0, none⟩), y5, y6, y7, y8, .pointer (some ⟨W.heap.size, 0, none⟩), y10, y11, y12, y13, y14, y15, y16, y17, y18, y19, y20, y21, y22, y23, y24, y25, y26, y27, y28, y29, y30, y31, y32, y33, y34, y35, y36, y37, y38, y39, y40, y41, y42, y43, y44, y45, y46, y47, y48, y49, y50, y51, y52, y53, y54, y55, y56, y57, y58, y59, y60, y61, y62, y63, y64, y65, y66, y67, y68, y69, y70, y71, y72, y73, y74, y75, y76, y77, y78, y79, y80, y81, y82, y83, y84, y85, y86, y87, y88, y89, y90, y91, y92, y93, y94, y95, y96, y97, y98, y99, y100, y101, y102, y103, y104, y105, y106, y107, y108, y109, y110, y111, y112, y113, y114, y115, y116, y117, y118, y119, y120, y121, y122, y123, y124], []⟩ (W.alloc (.cells #[.int .i64 n0, .int .i64 n1, .int .i64 n2, .int .i64 n3, .slice none 0 0, .slice none 0 0, .slice none 0 0] 25))) :
    Code.wp Try.prog (.seq ((Try.f14.body.bind (stmtAt 12)).getD .skip) REST) (bodyPost Try.prog Try.f14 post) ⟨#[X0, x1, .pointer (some ⟨G, 0, none⟩), x3, .pointer (some ⟨g, 0, none⟩), .pointer (some ⟨h, 0, none⟩), x6, x7, x8, x9, x10, x11, x12, x13, x14, x15, x16, x17, x18, x19, x20, x21, x22, x23, x24, x25, x26, x27, x28, x29, x30, x31, x32, x33, x34, x35, x36, x37, x38, x39, x40, x41, x42, x43, x44, x45, x46, x47, x48, x49, x50, x51, x52, x53, x54, x55, x56, x57, x58, x59, x60, x61, x62, x63, x64, x65, x66, x67, x68, x69, x70, x71, x72, x73, x74, x75, x76, x77, x78, x79, x80, x81, x82, x83, x84, x85, x86, x87, x88, x89, x90, x91, x92, x93, x94, x95, x96, x97, x98, x99, x100, x101, x102, x103, x104, x105, x106, x107, x108, x109, x110, x111, x112, x113, x114, x115, x116, x117, x118, x119, x120, x121, x122, x123, x124], []⟩ W := by
  conv => arg 2; arg 1; whnf
  have HRest : Hid (∀ (y1 y3 y5 y6 y7 y8 y10 y11 y12 y13 y14 y15 y16 y17 y18 y19 y20 y21 y22 y23 y24 y25 y26 y27 y28 y29 y30 y31 y32 y33 y34 y35 y36 y37 y38 y39 y40 y41 y42 y43 y44 y45 y46 y47 y48 y49 y50 y51 y52 y53 y54 y55 y56 y57 y58 y59 y60 y61 y62 y63 y64 y65 y66 y67 y68 y69 y70 y71 y72 y73 y74 y75 y76 y77 y78 y79 y80 y81 y82 y83 y84 y85 y86 y87 y88 y89 y90 y91 y92 y93 y94 y95 y96 y97 y98 y99 y100 y101 y102 y103 y104 y105 y106 y107 y108 y109 y110 y111 y112 y113 y114 y115 y116 y117 y118 y119 y120 y121 y122 y123 y124 : Value), Code.wp Try.prog REST (bodyPost Try.prog Try.f14 post) ⟨#[X0, y1, .pointer (some ⟨G, 0, none⟩), y3, .pointer (some ⟨g, 0, none⟩), y5, y6, y7, y8, .pointer (some ⟨W.heap.size, 0, none⟩), y10, y11, y12, y13, y14, y15, y16, y17, y18, y19, y20, y21, y22, y23, y24, y25, y26, y27, y28, y29, y30, y31, y32, y33, y34, y35, y36, y37, y38, y39, y40, y41, y42, y43, y44, y45, y46, y47, y48, y49, y50, y51, y52, y53, y54, y55, y56, y57, y58, y59, y60, y61, y62, y63, y64, y65, y66, y67, y68, y69, y70, y71, y72, y73, y74, y75, y76, y77, y78, y79, y80, y81, y82, y83, y84, y85, y86, y87, y88, y89, y90, y91, y92, y93, y94, y95, y96, y97, y98, y99, y100, y101, y102, y103, y104, y105, y106, y107, y108, y109, y110, y111, y112, y113, y114, y115, y116, y117, y118, y119, y120, y121, y122, y123, y124], []⟩ (W.alloc (.cells #[.int .i64 n0, .int .i64 n1, .int .i64 n2, .int .i64 n3, .slice none 0 0, .slice none 0 0, .slice none 0 0] 25))) := hRest
  clear hRest
  have a0 : W.cell? ⟨h, 0, none⟩ = some (.int .i64 n0) := by rw [cell_of_row W h 0 _ _ _ hA]; rfl
  have a1 : W.cell? ⟨h, 1, none⟩ = some (.int .i64 n1) := by rw [cell_of_row W h 1 _ _ _ hA]; rfl
  have a2 : W.cell? ⟨h, 2, none⟩ = some (.int .i64 n2) := by rw [cell_of_row W h 2 _ _ _ hA]; rfl
  have a3 : W.cell? ⟨h, 3, none⟩ = some (.int .i64 n3) := by rw [cell_of_row W h 3 _ _ _ hA]; rfl
  clear hA
  go_wp2_with fail
  exact HRest.out _ _ _ _ _ _ _ _ _ _ _ _ _ _ _ _ _ _ _ _ _ _ _ _ _ _ _ _ _ _ _ _ _ _ _ _ _ _ _ _ _ _ _ _ _ _ _ _ _ _ _ _ _ _ _ _ _ _ _ _ _ _ _ _ _ _ _ _ _ _ _ _ _ _ _ _ _ _ _ _ _ _ _ _ _ _ _ _ _ _ _ _ _ _ _ _ _ _ _ _ _ _ _ _ _ _ _ _ _ _ _ _ _ _ _ _ _ _ _ _ _

set_option maxRecDepth 100000 in
set_option maxHeartbeats 12800000 in
theorem dec_s13 {x1 x3 x5 x6 x7 x8 x10 x11 x12 x13 x14 x15 x16 x17 x18 x19 x20 x21 x22 x23 x24 x25 x26 x27 x28 x29 x30 x31 x32 x33 x34 x35 x36 x37 x38 x39 x40 x41 x42 x43 x44 x45 x46 x47 x48 x49 x50 x51 x52 x53 x54 x55 x56 x57 x58 x59 x60 x61 x62 x63 x64 x65 x66 x67 x68 x69 x70 x71 x72 x73 x74 x75 x76 x77 x78 x79 x80 x81 x82 x83 x84 x85 x86 x87 x88 x89 x90 x91 x92 x93 x94 x95 x96 x97 x98 x99 x100 x101 x102 x103 x104 x105 x106 x107 x108 x109 x110 x111 x112 x113 x114 x115 x116 x117 x118 x119 x120 x121 x122 x123 x124 : Value} {X0 : Value} {REST : Code} {post : Ending → World → Prop} {Q : Nat → Prop} {W : World} {G g q : Nat} {R0 : List Int} (hR : RRdQ Q W g R0)
    (hRest : ∀ (wx : World) (pi : Option Addr) (li ci : Nat) (ok : Bool) (y1 y3 y5 y6 y7 y8 y12 y13 y14 y15 y16 y17 y18 y19 y20 y21 y22 y23 y24 y25 y26 y27 y28 y29 y30 y31 y32 y33 y34 y35 y36 y37 y38 y39 y40 y41 y42 y43 y44 y45 y46 y47 y48 y49 y50 y51 y52 y53 y54 y55 y56 y57 y58 y59 y60 y61 y62 y63 y64 y65 y66 y67 y68 y69 y70 y71 y72 y73 y74 y75 y76 y77 y78 y79 y80 y81 y82 y83 y84 y85 y86 y87 y88 y89 y90 y91 y92 y93 y94 y95 y96 y97 y98 y99 y100 y101 y102 y103 y104 y105 y106 y107 y108 y109 y110 y111 y112 y113 y114 y115 y116 y117 y118 y119 y120 y121 y122 y123 y124 : Value), RlT Q R0 W g (.returned (.tuple #[.slice pi li ci, .bool ok])) wx → Code.wp Try.prog REST (bodyPost Try.prog Try.f14 post) ⟨#[X0, y1, .pointer (some ⟨G, 0, none⟩), y3, .pointer (some ⟨g, 0, none⟩), y5, y6, y7, y8, .pointer (some ⟨q, 0, none⟩), .slice pi li ci, .bool ok, y12, y13, y14, y15, y16, y17, y18, y19, y20, y21, y22, y23, y24, y25, y26, y27, y28, y29, y30, y31, y32, y33, y34, y35, y36, y37, y38, y39, y40, y41, y42, y43, y44, y45, y46, y47, y48, y49, y50, y51, y52, y53, y54, y55, y56, y57, y58, y59, y60, y61, y62, y63, y64, y65, y66, y67, y68, y69, y70, y71, y72, y73, y74, y75, y76, y77, y78, y79, y80, y81, y82, y83, y84, y85, y86, y87, y88, y89, y90, y91, y92, y93, y94, y95, y96, y97, y98, y99, y100, y101, y102, y103, y104, y105, y106, y107, y108, y109, y110, y111, y112, y113, y114, y115, y116, y117, y118, y119, y120, y121, y122, y123, y124], []⟩ wx) :
    Code.wp Try.prog (.seq ((Try.f14.body.bind (stmtAt 13)).getD .skip) REST) (bodyPost Try.prog Try.f14 post) ⟨#[X0, x1, .pointer (some ⟨G, 0, none⟩), x3, .pointer (some ⟨g, 0, none⟩), x5, x6, x7, x8, .pointer (some ⟨q, 0, none⟩), x10, x11, x12, x13, x14, x15, x16, x17, x18, x19, x20, x21, x22, x23, x24, x25, x26, x27, x28, x29, x30, x31, x32, x33, x34, x35, x36, x37, x38, x39, x40, x41, x42, x43, x44, x45, x46, x47, x48, x49, x50, x51, x52, x53, x54, x55, x56, x57, x58, x59, x60, x61, x62, x63, x64, x65, x66, x67, x68, x69, x70, x71, x72, x73, x74, x75, x76, x77, x78, x79, x80, x81, x82, x83, x84, x85, x86, x87, x88, x89, x90, x91, x92, x93, x94, x95, x96, x97, x98, x99, x100, x101, x102, x103, x104, x105, x106, x107, x108, x109, x110, x111, x112, x113, x114, x115, x116, x117, x118, x119, x120, x121, x122, x123, x124], []⟩ W := by
  conv => arg 2; arg 1; whnf
  have HRest : Hid (∀ (wx : World) (pi : Option Addr) (li ci : Nat) (ok : Bool) (y1 y3 y5 y6 y7 y8 y12 y13 y14 y15 y16 y17 y18 y19 y20 y21 y22 y23 y24 y25 y26 y27 y28 y29 y30 y31 y32 y33 y34 y35 y36 y37 y38 y39 y40 y41 y42 y43 y44 y45 y46 y47 y48 y49 y50 y51 y52 y53 y54 y55 y56 y57 y58 y59 y60 y61 y62 y63 y64 y65 y66 y67 y68 y69 y70 y71 y72 y73 y74 y75 y76 y77 y78 y79 y80 y81 y82 y83 y84 y85 y86 y87 y88 y89 y90 y91 y92 y93 y94 y95 y96 y97 y98 y99 y100 y101 y102 y103 y104 y105 y106 y107 y108 y109 y110 y111 y112 y113 y114 y115 y116 y117 y118 y119 y120 y121 y122 y123 y124 : Value), RlT Q R0 W g (.returned (.tuple #[.slice pi li ci, .bool ok])) wx → Code.wp Try.prog REST (bodyPost Try.prog Try.f14 post) ⟨#[X0, y1, .pointer (some ⟨G, 0, none⟩), y3, .pointer (some ⟨g, 0, none⟩), y5, y6, y7, y8, .pointer (some ⟨q, 0, none⟩), .slice pi li ci, .bool ok, y12, y13, y14, y15, y16, y17, y18, y19, y20, y21, y22, y23, y24, y25, y26, y27, y28, y29, y30, y31, y32, y33, y34, y35, y36, y37, y38, y39, y40, y41, y42, y43, y44, y45, y46, y47, y48, y49, y50, y51, y52, y53, y54, y55, y56, y57, y58, y59, y60, y61, y62, y63, y64, y65, y66, y67, y68, y69, y70, y71, y72, y73, y74, y75, y76, y77, y78, y79, y80, y81, y82, y83, y84, y85, y86, y87, y88, y89, y90, y91, y92, y93, y94, y95, y96, y97, y98, y99, y100, y101, y102, y103, y104, y105, y106, y107, y108, y109, y110, y111, y112, y113, y114, y115, y116, y117, y118, y119, y120, y121, y122, y123, y124], []⟩ wx) := hRest
  clear hRest
  go_wp2_with fail
  refine (r12rl_any g R0 _ hR).mono ?_
  intro e wx hT
  obtain ⟨pi, li, ci, ns, ok, R, rfl, hT2⟩ := hT
  have HT : Hid (RlT Q R0 W g (.returned (.tuple #[.slice pi li ci, .bool ok])) wx) := ⟨pi, li, ci, ns, ok, R, rfl, hT2⟩
  clear hT2 hR
  dsimp only
  go_wp2_with fail
  exact HRest.out wx pi li ci ok _ _ _ _ _ _ _ _ _ _ _ _ _ _ _ _ _ _ _ _ _ _ _ _ _ _ _ _ _ _ _ _ _ _ _ _ _ _ _ _ _ _ _ _ _ _ _ _ _ _ _ _ _ _ _ _ _ _ _ _ _ _ _ _ _ _ _ _ _ _ _ _ _ _ _ _ _ _ _ _ _ _ _ _ _ _ _ _ _ _ _ _ _ _ _ _ _ _ _ _ _ _ _ _ _ _ _ _ _ _ _ _ _ _ _ _ _ _ _ HT.out

set_option maxRecDepth 100000 in
set_option maxHeartbeats 12800000 in
theorem dec_s14 {x1 x3 x5 x6 x7 x8 x12 x13 x14 x15 x16 x17 x18 x19 x20 x21 x22 x23 x24 x25 x26 x27 x28 x29 x30 x31 x32 x33 x34 x35 x36 x37 x38 x39 x40 x41 x42 x43 x44 x45 x46 x47 x48 x49 x50 x51 x52 x53 x54 x55 x56 x57 x58 x59 x60 x61 x62 x63 x64 x65 x66 x67 x68 x69 x70 x71 x72 x73 x74 x75 x76 x77 x78 x79 x80 x81 x82 x83 x84 x85 x86 x87 x88 x89 x90 x91 x92 x93 x94 x95 x96 x97 x98 x99 x100 x101 x102 x103 x104 x105 x106 x107 x108 x109 x110 x111 x112 x113 x114 x115 x116 x117 x118 x119 x120 x121 x122 x123 x124 : Value} {X0 : Value} {REST : Code} {post : Ending → World → Prop} {Q : Nat → Prop} {W : World} {G g q : Nat} {R0 : List Int} {p1 : Option Addr} {l1 c1 : Nat} {o1 : Bool} (hR : RRdQ Q W g R0)
    (hRest : ∀ (wx : World) (pi : Option Addr) (li ci : Nat) (ok : Bool) (y1 y3 y5 y6 y7 y8 y14 y15 y16 y17 y18 y19 y20 y21 y22 y23 y24 y25 y26 y27 y28 y29 y30 y31 y32 y33 y34 y35 y36 y37 y38 y39 y40 y41 y42 y43 y44 y45 y46 y47 y48 y49 y50 y51 y52 y53 y54 y55 y56 y57 y58 y59 y60 y61 y62 y63 y64 y65 y66 y67 y68 y69 y70 y71 y72 y73 y74 y75 y76 y77 y78 y79 y80 y81 y82 y83 y84 y85 y86 y87 y88 y89 y90 y91 y92 y93 y94 y95 y96 y97 y98 y99 y100 y101 y102 y103 y104 y105 y106 y107 y108 y109 y110 y111 y112 y113 y114 y115 y116 y117 y118 y119 y120 y121 y122 y123 y124 : Value), RlT Q R0 W g (.returned (.tuple #[.slice pi li ci, .bool ok])) wx → Code.wp Try.prog REST (bodyPost Try.prog Try.f14 post) ⟨#[X0, y1, .pointer (some ⟨G, 0, none⟩), y3, .pointer (some ⟨g, 0, none⟩), y5, y6, y7, y8, .pointer (some ⟨q, 0, none⟩), .slice p1 l1 c1, .bool o1, .slice pi li ci, .bool ok, y14, y15, y16, y17, y18, y19, y20, y21, y22, y23, y24, y25, y26, y27, y28, y29, y30, y31, y32, y33, y34, y35, y36, y37, y38, y39, y40, y41, y42, y43, y44, y45, y46, y47, y48, y49, y50, y51, y52, y53, y54, y55, y56, y57, y58, y59, y60, y61, y62, y63, y64, y65, y66, y67, y68, y69, y70, y71, y72, y73, y74, y75, y76, y77, y78, y79, y80, y81, y82, y83, y84, y85, y86, y87, y88, y89, y90, y91, y92, y93, y94, y95, y96, y97, y98, y99, y100, y101, y102, y103, y104, y105, y106, y107, y108, y109, y110, y111, y112, y113, y114, y115, y116, y117, y118, y119, y120, y121, y122, y123, y124], []⟩ wx) :
    Code.wp Try.prog (.seq ((Try.f14.body.bind (stmtAt 14)).getD .skip) REST) (bodyPost Try.prog Try.f14 post) ⟨#[X0, x1, .pointer (some ⟨G, 0, none⟩), x3, .pointer (some ⟨g, 0, none⟩), x5, x6, x7, x8, .pointer (some ⟨q, 0, none⟩), .slice p1 l1 c1, .bool o1, x12, x13, x14, x15, x16, x17, x18, x19, x20, x21, x22, x23, x24, x25, x26, x27, x28, x29, x30, x31, x32, x33, x34, x35, x36, x37, x38, x39, x40, x41, x42, x43, x44, x45, x46, x47, x48, x49, x50, x51, x52, x53, x54, x55, x56, x57, x58, x59, x60, x61, x62, x63, x64, x65, x66, x67, x68, x69, x70, x71, x72, x73, x74, x75, x76, x77, x78, x79, x80, x81, x82, x83, x84, x85, x86, x87, x88, x89, x90, x91, x92, x93, x94, x95, x96, x97, x98, x99, x100, x101, x102, x103, x104, x105, x106, x107, x108, x109, x110, x111, x112, x113, x114, x115, x116, x117, x118, x119, x120, x121, x122, x123, x124], []⟩ W := by
  conv => arg 2; arg 1; whnf
  have HRest : Hid (∀ (wx : World) (pi : Option Addr) (li ci : Nat) (ok : Bool) (y1 y3 y5 y6 y7 y8 y14 y15 y16 y17 y18 y19 y20 y21 y22 y23 y24 y25 y26 y27 y28 y29 y30 y31 y32 y33 y34 y35 y36 y37 y38 y39 y40 y41 y42 y43 y44 y45 y46 y47 y48 y49 y50 y51 y52 y53 y54 y55 y56 y57 y58 y59 y60 y61 y62 y63 y64 y65 y66 y67 y68 y69 y70 y71 y72 y73 y74 y75 y76 y77 y78 y79 y80 y81 y82 y83 y84 y85 y86 y87 y88 y89 y90 y91 y92 y93 y94 y95 y96 y97 y98 y99 y100 y101 y102 y103 y104 y105 y106 y107 y108 y109 y110 y111 y112 y113 y114 y115 y116 y117 y118 y119 y120 y121 y122 y123 y124 : Value), RlT Q R0 W g (.returned (.tuple #[.slice pi li ci, .bool ok])) wx → Code.wp Try.prog REST (bodyPost Try.prog Try.f14 post) ⟨#[X0, y1, .pointer (some ⟨G, 0, none⟩), y3, .pointer (some ⟨g, 0, none⟩), y5, y6, y7, y8, .pointer (some ⟨q, 0, none⟩), .slice p1 l1 c1, .bool o1, .slice pi li ci, .bool ok, y14, y15, y16, y17, y18, y19, y20, y21, y22, y23, y24, y25, y26, y27, y28, y29, y30, y31, y32, y33, y34, y35, y36, y37, y38, y39, y40, y41, y42, y43, y44, y45, y46, y47, y48, y49, y50, y51, y52, y53, y54, y55, y56, y57, y58, y59, y60, y61, y62, y63, y64, y65, y66, y67, y68, y69, y70, y71, y72, y73, y74, y75, y76, y77, y78, y79, y80, y81, y82, y83, y84, y85, y86, y87, y88, y89, y90, y91, y92, y93, y94, y95, y96, y97, y98, y99, y100, y101, y102, y103, y104, y105, y106, y107, y108, y109, y110, y111, y112, y113, y114, y115, y116, y117, y118, y119, y120, y121, y122, y123, y124], []⟩ wx) := hRest
  clear hRest
  go_wp2_with fail
  refine (r12rl_any g R0 _ hR).mono ?_
  intro e wx hT
  obtain ⟨pi, li, ci, ns, ok, R, rfl, hT2⟩ := hT
  have HT : Hid (RlT Q R0 W g (.returned (.tuple #[.slice pi li ci, .bool ok])) wx) := ⟨pi, li, ci, ns, ok, R, rfl, hT2⟩
  clear hT2 hR
  dsimp only
  go_wp2_with fail
  exact HRest.out wx pi li ci ok _ _ _ _ _ _ _ _ _ _ _ _ _ _ _ _ _ _ _ _ _ _ _ _ _ _ _ _ _ _ _ _ _ _ _ _ _ _ _ _ _ _ _ _ _ _ _ _ _ _ _ _ _ _ _ _ _ _ _ _ _ _ _ _ _ _ _ _ _ _ _ _ _ _ _ _ _ _ _ _ _ _ _ _ _ _ _ _ _ _ _ _ _ _ _ _ _ _ _ _ _ _ _ _ _ _ _ _ _ _ _ _ _ _ _ _ _ HT.out

set_option maxRecDepth 100000 in
set_option maxHeartbeats 12800000 in
theorem dec_s15 {x1 x3 x5 x6 x7 x8 x14 x15 x16 x17 x18 x19 x20 x21 x22 x23 x24 x25 x26 x27 x28 x29 x30 x31 x32 x33 x34 x35 x36 x37 x38 x39 x40 x41 x42 x43 x44 x45 x46 x47 x48 x49 x50 x51 x52 x53 x54 x55 x56 x57 x58 x59 x60 x61 x62 x63 x64 x65 x66 x67 x68 x69 x70 x71 x72 x73 x74 x75 x76 x77 x78 x79 x80 x81 x82 x83 x84 x85 x86 x87 x88 x89 x90 x91 x92 x93 x94 x95 x96 x97 x98 x99 x100 x101 x102 x103 x104 x105 x106 x107 x108 x109 x110 x111 x112 x113 x114 x115 x116 x117 x118 x119 x120 x121 x122 x123 x124 : Value} {X0 : Value} {REST : Code} {post : Ending → World → Prop} {Q : Nat → Prop} {W : World} {G g q : Nat} {R0 : List Int} {p1 p2 : Option Addr} {l1 c1 l2 c2 : Nat} {o1 o2 : Bool} (hR : RRdQ Q W g R0)
    (hRest : ∀ (wx : World) (n : Nat) (er : Int) (R : List Int) (y1 y3 y5 y6 y7 y8 y16 y17 y18 y19 y20 y21 y22 y23 y24 y25 y26 y27 y28 y29 y30 y31 y32 y33 y34 y35 y36 y37 y38 y39 y40 y41 y42 y43 y44 y45 y46 y47 y48 y49 y50 y51 y52 y53 y54 y55 y56 y57 y58 y59 y60 y61 y62 y63 y64 y65 y66 y67 y68 y69 y70 y71 y72 y73 y74 y75 y76 y77 y78 y79 y80 y81 y82 y83 y84 y85 y86 y87 y88 y89 y90 y91 y92 y93 y94 y95 y96 y97 y98 y99 y100 y101 y102 y103 y104 y105 y106 y107 y108 y109 y110 y111 y112 y113 y114 y115 y116 y117 y118 y119 y120 y121 y122 y123 y124 : Value), ResNum R0 16384 n er R ∧ RRdQ Q wx g R ∧ W.grownBy wx (some g) → Code.wp Try.prog REST (bodyPost Try.prog Try.f14 post) ⟨#[X0, y1, .pointer (some ⟨G, 0, none⟩), y3, .pointer (some ⟨g, 0, none⟩), y5, y6, y7, y8, .pointer (some ⟨q, 0, none⟩), .slice p1 l1 c1, .bool o1, .slice p2 l2 c2, .bool o2, .int .u64 n, .int .i64 er, y16, y17, y18, y19, y20, y21, y22, y23, y24, y25, y26, y27, y28, y29, y30, y31, y32, y33, y34, y35, y36, y37, y38, y39, y40, y41, y42, y43, y44, y45, y46, y47, y48, y49, y50, y51, y52, y53, y54, y55, y56, y57, y58, y59, y60, y61, y62, y63, y64, y65, y66, y67, y68, y69, y70, y71, y72, y73, y74, y75, y76, y77, y78, y79, y80, y81, y82, y83, y84, y85, y86, y87, y88, y89, y90, y91, y92, y93, y94, y95, y96, y97, y98, y99, y100, y101, y102, y103, y104, y105, y106, y107, y108, y109, y110, y111, y112, y113, y114, y115, y116, y117, y118, y119, y120, y121, y122, y123, y124], []⟩ wx) :
    Code.wp Try.prog (.seq ((Try.f14.body.bind (stmtAt 15)).getD .skip) REST) (bodyPost Try.prog Try.f14 post) ⟨#[X0, x1, .pointer (some ⟨G, 0, none⟩), x3, .pointer (some ⟨g, 0, none⟩), x5, x6, x7, x8, .pointer (some ⟨q, 0, none⟩), .slice p1 l1 c1, .bool o1, .slice p2 l2 c2, .bool o2, x14, x15, x16, x17, x18, x19, x20, x21, x22, x23, x24, x25, x26, x27, x28, x29, x30, x31, x32, x33, x34, x35, x36, x37, x38, x39, x40, x41, x42, x43, x44, x45, x46, x47, x48, x49, x50, x51, x52, x53, x54, x55, x56, x57, x58, x59, x60, x61, x62, x63, x64, x65, x66, x67, x68, x69, x70, x71, x72, x73, x74, x75, x76, x77, x78, x79, x80, x81, x82, x83, x84, x85, x86, x87, x88, x89, x90, x91, x92, x93, x94, x95, x96, x97, x98, x99, x100, x101, x102, x103, x104, x105, x106, x107, x108, x109, x110, x111, x112, x113, x114, x115, x116, x117, x118, x119, x120, x121, x122, x123, x124], []⟩ W := by
  conv => arg 2; arg 1; whnf
  have HRest : Hid (∀ (wx : World) (n : Nat) (er : Int) (R : List Int) (y1 y3 y5 y6 y7 y8 y16 y17 y18 y19 y20 y21 y22 y23 y24 y25 y26 y27 y28 y29 y30 y31 y32 y33 y34 y35 y36 y37 y38 y39 y40 y41 y42 y43 y44 y45 y46 y47 y48 y49 y50 y51 y52 y53 y54 y55 y56 y57 y58 y59 y60 y61 y62 y63 y64 y65 y66 y67 y68 y69 y70 y71 y72 y73 y74 y75 y76 y77 y78 y79 y80 y81 y82 y83 y84 y85 y86 y87 y88 y89 y90 y91 y92 y93 y94 y95 y96 y97 y98 y99 y100 y101 y102 y103 y104 y105 y106 y107 y108 y109 y110 y111 y112 y113 y114 y115 y116 y117 y118 y119 y120 y121 y122 y123 y124 : Value), ResNum R0 16384 n er R ∧ RRdQ Q wx g R ∧ W.grownBy wx (some g) → Code.wp Try.prog REST (bodyPost Try.prog Try.f14 post) ⟨#[X0, y1, .pointer (some ⟨G, 0, none⟩), y3, .pointer (some ⟨g, 0, none⟩), y5, y6, y7, y8, .pointer (some ⟨q, 0, none⟩), .slice p1 l1 c1, .bool o1, .slice p2 l2 c2, .bool o2, .int .u64 n, .int .i64 er, y16, y17, y18, y19, y20, y21, y22, y23, y24, y25, y26, y27, y28, y29, y30, y31, y32, y33, y34, y35, y36, y37, y38, y39, y40, y41, y42, y43, y44, y45, y46, y47, y48, y49, y50, y51, y52, y53, y54, y55, y56, y57, y58, y59, y60, y61, y62, y63, y64, y65, y66, y67, y68, y69, y70, y71, y72, y73, y74, y75, y76, y77, y78, y79, y80, y81, y82, y83, y84, y85, y86, y87, y88, y89, y90, y91, y92, y93, y94, y95, y96, y97, y98, y99, y100, y101, y102, y103, y104, y105, y106, y107, y108, y109, y110, y111, y112, y113, y114, y115, y116, y117, y118, y119, y120, y121, y122, y123, y124], []⟩ wx) := hRest
  clear hRest
  go_wp2_with fail
  refine (r9rnum_any g R0 16384 _ hR).mono ?_
  rintro e wx ⟨n, er, R, rfl, h1, h2, h3⟩
  have HT : Hid (ResNum R0 16384 n er R ∧ RRdQ Q wx g R ∧ W.grownBy wx (some g)) := ⟨h1, h2, h3⟩
  clear h1 h2 h3 hR
  dsimp only
  go_wp2_with fail
  exact HRest.out wx n er R _ _ _ _ _ _ _ _ _ _ _ _ _ _ _ _ _ _ _ _ _ _ _ _ _ _ _ _ _ _ _ _ _ _ _ _ _ _ _ _ _ _ _ _ _ _ _ _ _ _ _ _ _ _ _ _ _ _ _ _ _ _ _ _ _ _ _ _ _ _ _ _ _ _ _ _ _ _ _ _ _ _ _ _ _ _ _ _ _ _ _ _ _ _ _ _ _ _ _ _ _ _ _ _ _ _ _ _ _ _ _ _ _ _ _ HT.out

set_option maxRecDepth 100000 in
set_option maxHeartbeats 12800000 in
theorem dec_s16 {x1 x3 x5 x6 x7 x8 x16 x17 x18 x19 x20 x21 x22 x23 x24 x25 x26 x27 x28 x29 x30 x31 x32 x33 x34 x35 x36 x37 x38 x39 x40 x41 x42 x43 x44 x45 x46 x47 x48 x49 x50 x51 x52 x53 x54 x55 x56 x57 x58 x59 x60 x61 x62 x63 x64 x65 x66 x67 x68 x69 x70 x71 x72 x73 x74 x75 x76 x77 x78 x79 x80 x81 x82 x83 x84 x85 x86 x87 x88 x89 x90 x91 x92 x93 x94 x95 x96 x97 x98 x99 x100 x101 x102 x103 x104 x105 x106 x107 x108 x109 x110 x111 x112 x113 x114 x115 x116 x117 x118 x119 x120 x121 x122 x123 x124 : Value} {X0 : Value} {REST : Code} {post : Ending → World → Prop} {W : World} {G g q : Nat} {p1 p2 : Option Addr} {l1 c1 l2 c2 : Nat} {o1 o2 : Bool} {n : Nat} {er : Int} (hG : MsgAt W G 0 0 0 0 none 0 0 none 0 0 none 0 0)
    (hEnd : ¬ (o1 = true ∧ o2 = true ∧ er = 0) → post (.returned (.tuple #[.agg #[.int .i64 0, .int .i64 0, .int .i64 0, .int .i64 0, .slice none 0 0, .slice none 0 0, .slice none 0 0], .int .i64 16])) (((((((W.setCell ⟨G, 0, none⟩ (.int .i64 0)).setCell ⟨G, 1, none⟩ (.int .i64 0)).setCell ⟨G, 2, none⟩ (.int .i64 0)).setCell ⟨G, 3, none⟩ (.int .i64 0)).setCell ⟨G, 4, none⟩ (.slice none 0 0)).setCell ⟨G, 5, none⟩ (.slice none 0 0)).setCell ⟨G, 6, none⟩ (.slice none 0 0)))
    (hRest : o1 = true ∧ o2 = true ∧ er = 0 → ∀ y1 y3 y5 y6 y7 y8 y11 y13 y15 y16 y17 y18 y19 y20 y21 y22 y23 y24 y25 y26 y27 y28 y29 y30 y31 y32 y33 y34 y35 y36 y37 y38 y39 y40 y41 y42 y43 y44 y45 y46 y47 y48 y49 y50 y51 y52 y53 y54 y55 y56 y57 y58 y59 y60 y61 y62 y63 y64 y65 y66 y67 y68 y69 y70 y71 y72 y73 y74 y75 y76 y77 y78 y79 y80 y81 y82 y83 y84 y85 y86 y87 y88 y89 y90 y91 y92 y93 y94 y95 y96 y97 y98 y99 y100 y101 y102 y103 y104 y105 y106 y107 y108 y109 y110 y111 y112 y113 y114 y115 y116 y117 y118 y119 y120 y121 y122 y123 y124 : Value, Code.wp Try.prog REST (bodyPost Try.prog Try.f14 post) ⟨#[X0, y1, .pointer (some ⟨G, 0, none⟩), y3, .pointer (some ⟨g, 0, none⟩), y5, y6, y7, y8, .pointer (some ⟨q, 0, none⟩), .slice p1 l1 c1, y11, .slice p2 l2 c2, y13, .int .u64 (n : Int), y15, y16, y17, y18, y19, y20, y21, y22, y23, y24, y25, y26, y27, y28, y29, y30, y31, y32, y33, y34, y35, y36, y37, y38, y39, y40, y41, y42, y43, y44, y45, y46, y47, y48, y49, y50, y51, y52, y53, y54, y55, y56, y57, y58, y59, y60, y61, y62, y63, y64, y65, y66, y67, y68, y69, y70, y71, y72, y73, y74, y75, y76, y77, y78, y79, y80, y81, y82, y83, y84, y85, y86, y87, y88, y89, y90, y91, y92, y93, y94, y95, y96, y97, y98, y99, y100, y101, y102, y103, y104, y105, y106, y107, y108, y109, y110, y111, y112, y113, y114, y115, y116, y117, y118, y119, y120, y121, y122, y123, y124], []⟩ W) :
    Code.wp Try.prog (.seq ((Try.f14.body.bind (stmtAt 16)).getD .skip) REST) (bodyPost Try.prog Try.f14 post) ⟨#[X0, x1, .pointer (some ⟨G, 0, none⟩), x3, .pointer (some ⟨g, 0, none⟩), x5, x6, x7, x8, .pointer (some ⟨q, 0, none⟩), .slice p1 l1 c1, .bool o1, .slice p2 l2 c2, .bool o2, .int .u64 (n : Int), .int .i64 er, x16, x17, x18, x19, x20, x21, x22, x23, x24, x25, x26, x27, x28, x29, x30, x31, x32, x33, x34, x35, x36, x37, x38, x39, x40, x41, x42, x43, x44, x45, x46, x47, x48, x49, x50, x51, x52, x53, x54, x55, x56, x57, x58, x59, x60, x61, x62, x63, x64, x65, x66, x67, x68, x69, x70, x71, x72, x73, x74, x75, x76, x77, x78, x79, x80, x81, x82, x83, x84, x85, x86, x87, x88, x89, x90, x91, x92, x93, x94, x95, x96, x97, x98, x99, x100, x101, x102, x103, x104, x105, x106, x107, x108, x109, x110, x111, x112, x113, x114, x115, x116, x117, x118, x119, x120, x121, x122, x123, x124], []⟩ W := by
  conv => arg 2; arg 1; whnf
  have HEnd : Hid (¬ (o1 = true ∧ o2 = true ∧ er = 0) → post (.returned (.tuple #[.agg #[.int .i64 0, .int .i64 0, .int .i64 0, .int .i64 0, .slice none 0 0, .slice none 0 0, .slice none 0 0], .int .i64 16])) (((((((W.setCell ⟨G, 0, none⟩ (.int .i64 0)).setCell ⟨G, 1, none⟩ (.int .i64 0)).setCell ⟨G, 2, none⟩ (.int .i64 0)).setCell ⟨G, 3, none⟩ (.int .i64 0)).setCell ⟨G, 4, none⟩ (.slice none 0 0)).setCell ⟨G, 5, none⟩ (.slice none 0 0)).setCell ⟨G, 6, none⟩ (.slice none 0 0))) := hEnd
  have HRest : Hid (o1 = true ∧ o2 = true ∧ er = 0 → ∀ y1 y3 y5 y6 y7 y8 y11 y13 y15 y16 y17 y18 y19 y20 y21 y22 y23 y24 y25 y26 y27 y28 y29 y30 y31 y32 y33 y34 y35 y36 y37 y38 y39 y40 y41 y42 y43 y44 y45 y46 y47 y48 y49 y50 y51 y52 y53 y54 y55 y56 y57 y58 y59 y60 y61 y62 y63 y64 y65 y66 y67 y68 y69 y70 y71 y72 y73 y74 y75 y76 y77 y78 y79 y80 y81 y82 y83 y84 y85 y86 y87 y88 y89 y90 y91 y92 y93 y94 y95 y96 y97 y98 y99 y100 y101 y102 y103 y104 y105 y106 y107 y108 y109 y110 y111 y112 y113 y114 y115 y116 y117 y118 y119 y120 y121 y122 y123 y124 : Value, Code.wp Try.prog REST (bodyPost Try.prog Try.f14 post) ⟨#[X0, y1, .pointer (some ⟨G, 0, none⟩), y3, .pointer (some ⟨g, 0, none⟩), y5, y6, y7, y8, .pointer (some ⟨q, 0, none⟩), .slice p1 l1 c1, y11, .slice p2 l2 c2, y13, .int .u64 (n : Int), y15, y16, y17, y18, y19, y20, y21, y22, y23, y24, y25, y26, y27, y28, y29, y30, y31, y32, y33, y34, y35, y36, y37, y38, y39, y40, y41, y42, y43, y44, y45, y46, y47, y48, y49, y50, y51, y52, y53, y54, y55, y56, y57, y58, y59, y60, y61, y62, y63, y64, y65, y66, y67, y68, y69, y70, y71, y72, y73, y74, y75, y76, y77, y78, y79, y80, y81, y82, y83, y84, y85, y86, y87, y88, y89, y90, y91, y92, y93, y94, y95, y96, y97, y98, y99, y100, y101, y102, y103, y104, y105, y106, y107, y108, y109, y110, y111, y112, y113, y114, y115, y116, y117, y118, y119, y120, y121, y122, y123, y124], []⟩ W) := hRest
  obtain ⟨⟨r0, r1, r2, r3, r4, r5, r6⟩, fz⟩ := hG.cells
  have f0 := fz 0
  have f1 := fz 1
  have f2 := fz 2
  have f3 := fz 3
  have f4 := fz 4
  have f5 := fz 5
  have f6 := fz 6
  clear hEnd hRest hG fz
  cases o1 with
  | false =>
    have HB : Hid (post (.returned (.tuple #[.agg #[.int .i64 0, .int .i64 0, .int .i64 0, .int .i64 0, .slice none 0 0, .slice none 0 0, .slice none 0 0], .int .i64 16])) (((((((W.setCell ⟨G, 0, none⟩ (.int .i64 0)).setCell ⟨G, 1, none⟩ (.int .i64 0)).setCell ⟨G, 2, none⟩ (.int .i64 0)).setCell ⟨G, 3, none⟩ (.int .i64 0)).setCell ⟨G, 4, none⟩ (.slice none 0 0)).setCell ⟨G, 5, none⟩ (.slice none 0 0)).setCell ⟨G, 6, none⟩ (.slice none 0 0))) := HEnd.out (by simp)
    clear HEnd HRest
    go_wp2_with fail
    exact bodyPost_ret (v := .tuple #[.agg #[.int .i64 0, .int .i64 0, .int .i64 0, .int .i64 0, .slice none 0 0, .slice none 0 0, .slice none 0 0], .int .i64 16]) (by simp [results, Try.results14, go_sem, r0, r1, r2, r3, r4, r5, r6]) rfl HB.out
  | true =>
  cases o2 with
  | false =>
    have HB : Hid (post (.returned (.tuple #[.agg #[.int .i64 0, .int .i64 0, .int .i64 0, .int .i64 0, .slice none 0 0, .slice none 0 0, .slice none 0 0], .int .i64 16])) (((((((W.setCell ⟨G, 0, none⟩ (.int .i64 0)).setCell ⟨G, 1, none⟩ (.int .i64 0)).setCell ⟨G, 2, none⟩ (.int .i64 0)).setCell ⟨G, 3, none⟩ (.int .i64 0)).setCell ⟨G, 4, none⟩ (.slice none 0 0)).setCell ⟨G, 5, none⟩ (.slice none 0 0)).setCell ⟨G, 6, none⟩ (.slice none 0 0))) := HEnd.out (by simp)
    clear HEnd HRest
    go_wp2_with fail
    exact bodyPost_ret (v := .tuple #[.agg #[.int .i64 0, .int .i64 0, .int .i64 0, .int .i64 0, .slice none 0 0, .slice none 0 0, .slice none 0 0], .int .i64 16]) (by simp [results, Try.results14, go_sem, r0, r1, r2, r3, r4, r5, r6]) rfl HB.out
  | true =>
  by_cases z : er = 0
  case neg =>
    have zd : (er != 0) = true := by simp [z]
    have ze : (er == 0) = false := by simp [z]
    have HB : Hid (post (.returned (.tuple #[.agg #[.int .i64 0, .int .i64 0, .int .i64 0, .int .i64 0, .slice none 0 0, .slice none 0 0, .slice none 0 0], .int .i64 16])) (((((((W.setCell ⟨G, 0, none⟩ (.int .i64 0)).setCell ⟨G, 1, none⟩ (.int .i64 0)).setCell ⟨G, 2, none⟩ (.int .i64 0)).setCell ⟨G, 3, none⟩ (.int .i64 0)).setCell ⟨G, 4, none⟩ (.slice none 0 0)).setCell ⟨G, 5, none⟩ (.slice none 0 0)).setCell ⟨G, 6, none⟩ (.slice none 0 0))) := HEnd.out (by simp [z])
    clear HEnd HRest
    go_wp2_with fail
    exact bodyPost_ret (v := .tuple #[.agg #[.int .i64 0, .int .i64 0, .int .i64 0, .int .i64 0, .slice none 0 0, .slice none 0 0, .slice none 0 0], .int .i64 16]) (by simp [results, Try.results14, go_sem, r0, r1, r2, r3, r4, r5, r6]) rfl HB.out
  subst z
  clear HEnd
  go_wp2_with fail
  exact HRest.out (by simp) _ _ _ _ _ _ _ _ _ _ _ _ _ _ _ _ _ _ _ _ _ _ _ _ _ _ _ _ _ _ _ _ _ _ _ _ _ _ _ _ _ _ _ _ _ _ _ _ _ _ _ _ _ _ _ _ _ _ _ _ _ _ _ _ _ _ _ _ _ _ _ _ _ _ _ _ _ _ _ _ _ _ _ _ _ _ _ _ _ _ _ _ _ _ _ _ _ _ _ _ _ _ _ _ _ _ _ _ _ _ _ _ _ _ _ _ _ _

set_option maxRecDepth 100000 in
set_option maxHeartbeats 12800000 in
theorem dec_s18 {x1 x3 x5 x6 x7 x8 x11 x13 x15 x16 x17 x18 x19 x20 x21 x22 x23 x24 x25 x26 x27 x28 x29 x30 x31 x32 x33 x34 x35 x36 x37 x38 x39 x40 x41 x42 x43 x44 x45 x46 x47 x48 x49 x50 x51 x52 x53 x54 x55 x56 x57 x58 x59 x60 x61 x62 x63 x64 x65 x66 x67 x68 x69 x70 x71 x72 x73 x74 x75 x76 x77 x78 x79 x80 x81 x82 x83 x84 x85 x86 x87 x88 x89 x90 x91 x92 x93 x94 x95 x96 x97 x98 x99 x100 x101 x102 x103 x104 x105 x106 x107 x108 x109 x110 x111 x112 x113 x114 x115 x116 x117 x118 x119 x120 x121 x122 x123 x124 : Value} {X0 : Value} {REST : Code} {post : Ending → World → Prop} {W : World} {G g q : Nat} {p1 p2 : Option Addr} {l1 c1 l2 c2 n : Nat} {k a b c : Int} {pi pr pn : Option Addr} {li ci lr cr ln cn : Nat} (hM : MsgAt W q k a b c pi li ci pr lr cr pn ln cn)
    (hRest : ∀ (y1 y3 y5 y6 y7 y8 y11 y13 y15 y16 y17 y18 y19 y20 y21 y22 y23 y24 y25 y26 y27 y28 y29 y30 y31 y32 y33 y34 y35 y36 y37 y38 y39 y40 y41 y42 y43 y44 y45 y46 y47 y48 y49 y50 y51 y52 y53 y54 y55 y56 y57 y58 y59 y60 y61 y62 y63 y64 y65 y66 y67 y68 y69 y70 y71 y72 y73 y74 y75 y76 y77 y78 y79 y80 y81 y82 y83 y84 y85 y86 y87 y88 y89 y90 y91 y92 y93 y94 y95 y96 y97 y98 y99 y100 y101 y102 y103 y104 y105 y106 y107 y108 y109 y110 y111 y112 y113 y114 y115 y116 y117 y118 y119 y120 y121 y122 y123 y124 : Value), Code.wp Try.prog REST (bodyPost Try.prog Try.f14 post) ⟨#[X0, y1, .pointer (some ⟨G, 0, none⟩), y3, .pointer (some ⟨g, 0, none⟩), y5, y6, y7, y8, .pointer (some ⟨q, 0, none⟩), .slice p1 l1 c1, y11, .slice p2 l2 c2, y13, .int .u64 (n : Int), y15, y16, y17, y18, y19, y20, y21, y22, y23, y24, y25, y26, y27, y28, y29, y30, y31, y32, y33, y34, y35, y36, y37, y38, y39, y40, y41, y42, y43, y44, y45, y46, y47, y48, y49, y50, y51, y52, y53, y54, y55, y56, y57, y58, y59, y60, y61, y62, y63, y64, y65, y66, y67, y68, y69, y70, y71, y72, y73, y74, y75, y76, y77, y78, y79, y80, y81, y82, y83, y84, y85, y86, y87, y88, y89, y90, y91, y92, y93, y94, y95, y96, y97, y98, y99, y100, y101, y102, y103, y104, y105, y106, y107, y108, y109, y110, y111, y112, y113, y114, y115, y116, y117, y118, y119, y120, y121, y122, y123, y124], []⟩ (W.setCell ⟨q, 4, none⟩ (.slice p1 l1 c1))) :
    Code.wp Try.prog (.seq ((Try.f14.body.bind (stmtAt 18)).getD .skip) REST) (bodyPost Try.prog Try.f14 post) ⟨#[X0, x1, .pointer (some ⟨G, 0, none⟩), x3, .pointer (some ⟨g, 0, none⟩), x5, x6, x7, x8, .pointer (some ⟨q, 0, none⟩), .slice p1 l1 c1, x11, .slice p2 l2 c2, x13, .int .u64 (n : Int), x15, x16, x17, x18, x19, x20, x21, x22, x23, x24, x25, x26, x27, x28, x29, x30, x31, x32, x33, x34, x35, x36, x37, x38, x39, x40, x41, x42, x43, x44, x45, x46, x47, x48, x49, x50, x51, x52, x53, x54, x55, x56, x57, x58, x59, x60, x61, x62, x63, x64, x65, x66, x67, x68, x69, x70, x71, x72, x73, x74, x75, x76, x77, x78, x79, x80, x81, x82, x83, x84, x85, x86, x87, x88, x89, x90, x91, x92, x93, x94, x95, x96, x97, x98, x99, x100, x101, x102, x103, x104, x105, x106, x107, x108, x109, x110, x111, x112, x113, x114, x115, x116, x117, x118, x119, x120, x121, x122, x123, x124], []⟩ W := by
  conv => arg 2; arg 1; whnf
  have HRest : Hid (∀ (y1 y3 y5 y6 y7 y8 y11 y13 y15 y16 y17 y18 y19 y20 y21 y22 y23 y24 y25 y26 y27 y28 y29 y30 y31 y32 y33 y34 y35 y36 y37 y38 y39 y40 y41 y42 y43 y44 y45 y46 y47 y48 y49 y50 y51 y52 y53 y54 y55 y56 y57 y58 y59 y60 y61 y62 y63 y64 y65 y66 y67 y68 y69 y70 y71 y72 y73 y74 y75 y76 y77 y78 y79 y80 y81 y82 y83 y84 y85 y86 y87 y88 y89 y90 y91 y92 y93 y94 y95 y96 y97 y98 y99 y100 y101 y102 y103 y104 y105 y106 y107 y108 y109 y110 y111 y112 y113 y114 y115 y116 y117 y118 y119 y120 y121 y122 y123 y124 : Value), Code.wp Try.prog REST (bodyPost Try.prog Try.f14 post) ⟨#[X0, y1, .pointer (some ⟨G, 0, none⟩), y3, .pointer (some ⟨g, 0, none⟩), y5, y6, y7, y8, .pointer (some ⟨q, 0, none⟩), .slice p1 l1 c1, y11, .slice p2 l2 c2, y13, .int .u64 (n : Int), y15, y16, y17, y18, y19, y20, y21, y22, y23, y24, y25, y26, y27, y28, y29, y30, y31, y32, y33, y34, y35, y36, y37, y38, y39, y40, y41, y42, y43, y44, y45, y46, y47, y48, y49, y50, y51, y52, y53, y54, y55, y56, y57, y58, y59, y60, y61, y62, y63, y64, y65, y66, y67, y68, y69, y70, y71, y72, y73, y74, y75, y76, y77, y78, y79, y80, y81, y82, y83, y84, y85, y86, y87, y88, y89, y90, y91, y92, y93, y94, y95, y96, y97, y98, y99, y100, y101, y102, y103, y104, y105, y106, y107, y108, y109, y110, y111, y112, y113, y114, y115, y116, y117, y118, y119, y120, y121, y122, y123, y124], []⟩ (W.setCell ⟨q, 4, none⟩ (.slice p1 l1 c1))) := hRest
  clear hRest
  obtain ⟨⟨r0, r1, r2, r3, r4, r5, r6⟩, fz⟩ := hM.cells
  have f4 := fz 4
  have f5 := fz 5
  clear hM fz
  go_wp2_with fail
  exact HRest.out _ _ _ _ _ _ _ _ _ _ _ _ _ _ _ _ _ _ _ _ _ _ _ _ _ _ _ _ _ _ _ _ _ _ _ _ _ _ _ _ _ _ _ _ _ _ _ _ _ _ _ _ _ _ _ _ _ _ _ _ _ _ _ _ _ _ _ _ _ _ _ _ _ _ _ _ _ _ _ _ _ _ _ _ _ _ _ _ _ _ _ _ _ _ _ _ _ _ _ _ _ _ _ _ _ _ _ _ _ _ _ _ _ _ _ _ _ _

set_option maxRecDepth 100000 in
set_option maxHeartbeats 12800000 in
theorem dec_s19 {x1 x3 x5 x6 x7 x8 x11 x13 x15 x16 x17 x18 x19 x20 x21 x22 x23 x24 x25 x26 x27 x28 x29 x30 x31 x32 x33 x34 x35 x36 x37 x38 x39 x40 x41 x42 x43 x44 x45 x46 x47 x48 x49 x50 x51 x52 x53 x54 x55 x56 x57 x58 x59 x60 x61 x62 x63 x64 x65 x66 x67 x68 x69 x70 x71 x72 x73 x74 x75 x76 x77 x78 x79 x80 x81 x82 x83 x84 x85 x86 x87 x88 x89 x90 x91 x92 x93 x94 x95 x96 x97 x98 x99 x100 x101 x102 x103 x104 x105 x106 x107 x108 x109 x110 x111 x112 x113 x114 x115 x116 x117 x118 x119 x120 x121 x122 x123 x124 : Value} {X0 : Value} {REST : Code} {post : Ending → World → Prop} {W : World} {G g q : Nat} {p1 p2 : Option Addr} {l1 c1 l2 c2 n : Nat} {k a b c : Int} {pi pr pn : Option Addr} {li ci lr cr ln cn : Nat} (hM : MsgAt W q k a b c pi li ci pr lr cr pn ln cn)
    (hRest : ∀ (y1 y3 y5 y6 y7 y8 y11 y13 y15 y16 y17 y18 y19 y20 y21 y22 y23 y24 y25 y26 y27 y28 y29 y30 y31 y32 y33 y34 y35 y36 y37 y38 y39 y40 y41 y42 y43 y44 y45 y46 y47 y48 y49 y50 y51 y52 y53 y54 y55 y56 y57 y58 y59 y60 y61 y62 y63 y64 y65 y66 y67 y68 y69 y70 y71 y72 y73 y74 y75 y76 y77 y78 y79 y80 y81 y82 y83 y84 y85 y86 y87 y88 y89 y90 y91 y92 y93 y94 y95 y96 y97 y98 y99 y100 y101 y102 y103 y104 y105 y106 y107 y108 y109 y110 y111 y112 y113 y114 y115 y116 y117 y118 y119 y120 y121 y122 y123 y124 : Value), Code.wp Try.prog REST (bodyPost Try.prog Try.f14 post) ⟨#[X0, y1, .pointer (some ⟨G, 0, none⟩), y3, .pointer (some ⟨g, 0, none⟩), y5, y6, y7, y8, .pointer (some ⟨q, 0, none⟩), .slice p1 l1 c1, y11, .slice p2 l2 c2, y13, .int .u64 (n : Int), y15, y16, y17, y18, y19, y20, y21, y22, y23, y24, y25, y26, y27, y28, y29, y30, y31, y32, y33, y34, y35, y36, y37, y38, y39, y40, y41, y42, y43, y44, y45, y46, y47, y48, y49, y50, y51, y52, y53, y54, y55, y56, y57, y58, y59, y60, y61, y62, y63, y64, y65, y66, y67, y68, y69, y70, y71, y72, y73, y74, y75, y76, y77, y78, y79, y80, y81, y82, y83, y84, y85, y86, y87, y88, y89, y90, y91, y92, y93, y94, y95, y96, y97, y98, y99, y100, y101, y102, y103, y104, y105, y106, y107, y108, y109, y110, y111, y112, y113, y114, y115, y116, y117, y118, y119, y120, y121, y122, y123, y124], []⟩ (W.setCell ⟨q, 5, none⟩ (.slice p2 l2 c2))) :
    Code.wp Try.prog (.seq ((Try.f14.body.bind (stmtAt 19)).getD .skip) REST) (bodyPost Try.prog Try.f14 post) ⟨#[X0, x1, .pointer (some ⟨G, 0, none⟩), x3, .pointer (some ⟨g, 0, none⟩), x5, x6, x7, x8, .pointer (some ⟨q, 0, none⟩), .slice p1 l1 c1, x11, .slice p2 l2 c2, x13, .int .u64 (n : Int), x15, x16, x17, x18, x19, x20, x21, x22, x23, x24, x25, x26, x27, x28, x29, x30, x31, x32, x33, x34, x35, x36, x37, x38, x39, x40, x41, x42, x43, x44, x45, x46, x47, x48, x49, x50, x51, x52, x53, x54, x55, x56, x57, x58, x59, x60, x61, x62, x63, x64, x65, x66, x67, x68, x69, x70, x71, x72, x73, x74, x75, x76, x77, x78, x79, x80, x81, x82, x83, x84, x85, x86, x87, x88, x89, x90, x91, x92, x93, x94, x95, x96, x97, x98, x99, x100, x101, x102, x103, x104, x105, x106, x107, x108, x109, x110, x111, x112, x113, x114, x115, x116, x117, x118, x119, x120, x121, x122, x123, x124], []⟩ W := by
  conv => arg 2; arg 1; whnf
  have HRest : Hid (∀ (y1 y3 y5 y6 y7 y8 y11 y13 y15 y16 y17 y18 y19 y20 y21 y22 y23 y24 y25 y26 y27 y28 y29 y30 y31 y32 y33 y34 y35 y36 y37 y38 y39 y40 y41 y42 y43 y44 y45 y46 y47 y48 y49 y50 y51 y52 y53 y54 y55 y56 y57 y58 y59 y60 y61 y62 y63 y64 y65 y66 y67 y68 y69 y70 y71 y72 y73 y74 y75 y76 y77 y78 y79 y80 y81 y82 y83 y84 y85 y86 y87 y88 y89 y90 y91 y92 y93 y94 y95 y96 y97 y98 y99 y100 y101 y102 y103 y104 y105 y106 y107 y108 y109 y110 y111 y112 y113 y114 y115 y116 y117 y118 y119 y120 y121 y122 y123 y124 : Value), Code.wp Try.prog REST (bodyPost Try.prog Try.f14 post) ⟨#[X0, y1, .pointer (some ⟨G, 0, none⟩), y3, .pointer (some ⟨g, 0, none⟩), y5, y6, y7, y8, .pointer (some ⟨q, 0, none⟩), .slice p1 l1 c1, y11, .slice p2 l2 c2, y13, .int .u64 (n : Int), y15, y16, y17, y18, y19, y20, y21, y22, y23, y24, y25, y26, y27, y28, y29, y30, y31, y32, y33, y34, y35, y36, y37, y38, y39, y40, y41, y42, y43, y44, y45, y46, y47, y48, y49, y50, y51, y52, y53, y54, y55, y56, y57, y58, y59, y60, y61, y62, y63, y64, y65, y66, y67, y68, y69, y70, y71, y72, y73, y74, y75, y76, y77, y78, y79, y80, y81, y82, y83, y84, y85, y86, y87, y88, y89, y90, y91, y92, y93, y94, y95, y96, y97, y98, y99, y100, y101, y102, y103, y104, y105, y106, y107, y108, y109, y110, y111, y112, y113, y114, y115, y116, y117, y118, y119, y120, y121, y122, y123, y124], []⟩ (W.setCell ⟨q, 5, none⟩ (.slice p2 l2 c2))) := hRest
  clear hRest
  obtain ⟨⟨r0, r1, r2, r3, r4, r5, r6⟩, fz⟩ := hM.cells
  have f4 := fz 4
  have f5 := fz 5
  clear hM fz
  go_wp2_with fail
  exact HRest.out _ _ _ _ _ _ _ _ _ _ _ _ _ _ _ _ _ _ _ _ _ _ _ _ _ _ _ _ _ _ _ _ _ _ _ _ _ _ _ _ _ _ _ _ _ _ _ _ _ _ _ _ _ _ _ _ _ _ _ _ _ _ _ _ _ _ _ _ _ _ _ _ _ _ _ _ _ _ _ _ _ _ _ _ _ _ _ _ _ _ _ _ _ _ _ _ _ _ _ _ _ _ _ _ _ _ _ _ _ _ _ _ _ _ _ _ _ _

end Go.Proofs.Ytnbdbahfekneoaa

namespace Go.Proofs.Ytnbdbahfekneoaa
open Go.RowKit

theorem RRdQ.notP {Q : Nat → Prop} {w : World} {g : Nat} {L : List Int} (h : RRdQ Q w g L) : ¬ Plain w g := by
  obtain ⟨a, l, c, u, F, _, _, _, h1, _⟩ := h
  exact not_plain h1 (by decide) (by decide) (by decide)
theorem NOwn.notP {w : World} {base : Nat} {v : Value} {ns : List (List Int)} (h : NOwn w base v ns) : ∀ b, v.ownBlock = some b → ¬ Plain w b := fun b e => by
  obtain ⟨vs, ⟨_, ⟨rfl, _⟩ | ⟨g, cap, cur, rfl, _, hg, _⟩⟩, _⟩ := h
  · cases e
  · cases e
    exact not_plain hg (by decide) (by decide) (by decide)
theorem Try.infoN : (Try.prog.info? 47).map (fun i => (i.zero, i.size, i.bytes)) = some (some (.slice none 0 0), 1, 24) := by kernel_rfl
theorem wpList_appN1 (w : World) {ops : Array Oper} {rest : List Oper} {o : Oper} {a : Act} {Q : Exit → Act → World → Prop} (hgd : o.guard = none) (s x : Operand) (t : TypeId)
    (ho : o.op = .call { callee := .builtin .append, args := #[s, x], argTypes := #[t, t] }) (ht : Try.prog.underlying t = some (.slice 47))
    (base : Nat) (v : Value) (ns : List (List Int)) (hs : a.eval s = v) (hown : NOwn w base v ns) (ad : Addr) (p : Option Addr) (l c : Nat) (zs : List Int) (hx : a.eval x = .slice (some ad) 1 1) (hc : w.cell? ad = some (.slice p l c)) (hz : NumG w p l c zs)
    (hlen : ns.length < 1000000) (hbase : base ≤ w.heap.size)
    (h : ∀ v' w', NOwn w' base v' (ns ++ [zs]) → w.grownBy w' v.ownBlock → wpList Try.prog ops Q rest (a.put o.dst v') w') : wpList Try.prog ops Q (o :: rest) a w := by
  obtain ⟨i0, hi, hz0, hz1, hz2⟩ := info_parts Try.infoN
  have hnp := hown.notP
  obtain ⟨vs, h1, h2⟩ := hown
  have hvl : vs.length = ns.length := by have := h1.1; omega
  refine wpList_append_own w hgd s x t ho base 47 i0 (.slice none 0 0) 1 24 ht hi hz0 hz1 hz2 rfl (by decide) v ns.length vs hs h1 ad 1 1 [.slice p l c] hx rfl ?_ ?_ ?_ ?_ hbase ?_
  · intro j u hj
    match j, hj with
    | 0, hj =>
      simp at hj; subst hj
      obtain ⟨b, off, spot⟩ := ad
      have hspot : spot = none := World.cell?_spot hc
      subst hspot
      rw [Addr.add_lit]; exact hc
  · intro u hu; simp at hu; subst hu; rfl
  · unfold maxLen; omega
  · omega
  · intro v' w' k1 k2 _
    have kk : Kp w w' := Kp.grown k2 hnp
    refine h v' w' ⟨vs ++ [.slice p l c], by simpa using k1, fun i hi => ?_⟩ k2
    by_cases q : i < ns.length
    · obtain ⟨p', l', c', e, hn⟩ := h2 i q
      refine ⟨p', l', c', by rw [List.getElem?_append_left (by omega)]; exact e, ?_⟩
      rw [show (ns ++ [zs]).getD i [] = ns.getD i [] by unfold List.getD; rw [List.getElem?_append_left q]]
      exact hn.kp kk
    · obtain rfl : i = ns.length := by simp at hi; omega
      refine ⟨p, l, c, by rw [List.getElem?_append_right (by omega), hvl]; simp, ?_⟩
      rw [show (ns ++ [zs]).getD ns.length [] = zs by simp [List.getD]]
      exact hz.kp kk
theorem NOwn.low {w w' : World} {base : Nat} {v : Value} {ns : List (List Int)} (h : NOwn w base v ns) (hg : w.grownBy w' v.ownBlock) (hb : base ≤ w.heap.size) : Below base w w' := by
  obtain ⟨vs, h1, _⟩ := h
  exact ⟨hg.os, hg.tape, hg.output, hg.size, fun k hk => hg.block k (Nat.lt_of_lt_of_le hk hb) (fun e => by have := (World.ownsRow.lt h1 k e.symm).1; omega)⟩
theorem ResBytR.at {c b R L : List Int} {most err : Int} {ys R' : List Int} (h : ResBytR L most ys err R') (hc : IsCode c b.length) (hn : (b.length : Int) ≤ most) (hb : b.length < 18446744073709551616) (hL : L = c ++ (b ++ R)) : ys = b ∧ err = 0 ∧ R' = R := by
  subst hL
  refine h.unique ⟨b.length, c.length, NextT.of_code hc hb, .inr ⟨fun e => ?_, by simp, rfl, by simp⟩⟩
  rcases e with e | e | e | e
  · exact hc.nonempty (List.eq_nil_of_length_eq_zero e)
  · omega
  · omega
  · simp at e
    omega

set_option maxRecDepth 100000 in
set_option maxHeartbeats 12800000 in
theorem dec_l2 {x1 x3 x5 x6 x7 x8 x10 x11 x12 x13 x15 x16 x17 x18 x19 x20 x21 x22 x23 x24 x25 x26 x27 x28 x29 x30 x31 x32 x33 x34 x35 x36 x37 x38 x39 x40 x41 x42 x43 x44 x45 x46 x47 x48 x49 x50 x51 x52 x53 x54 x55 x56 x57 x58 x59 x60 x61 x62 x63 x64 x65 x66 x67 x68 x69 x70 x71 x72 x73 x74 x75 x76 x77 x78 x79 x80 x81 x82 x83 x84 x85 x86 x87 x88 x89 x90 x91 x92 x93 x94 x95 x96 x97 x98 x99 x100 x101 x102 x103 x104 x105 x106 x107 x108 x109 x110 x111 x112 x113 x114 x115 x116 x117 x118 x119 x120 x121 x122 x123 x124 : Value} {X0 : Value} {REST : Code} {post : Ending → World → Prop} {V W : World} {G g q n : Nat} {R0 : List Int} {k a b c : Int} {pi pr : Option Addr} {li ci lr cr : Nat} (hG : MsgAt V G 0 0 0 0 none 0 0 none 0 0 none 0 0) (hGg : G ≠ g) (hgV : g < V.heap.size) (hq : V.heap.size ≤ q) (hn : n ≤ 16384) (hgr : V.grownBy W (some g)) (hR : RRdQ (· < V.heap.size) W g R0) (hM : MsgAt W q k a b c pi li ci pr lr cr none 0 0)
    (hEnd : ∀ wx : World, V.grownBy wx (some g) → (∀ bss T y, BlobsOf bss y → R0 = y ++ T → bss.length = n → (∀ d, d ∈ bss → d.length ≤ 32) → False) → post (.returned (.tuple #[.agg #[.int .i64 0, .int .i64 0, .int .i64 0, .int .i64 0, .slice none 0 0, .slice none 0 0, .slice none 0 0], .int .i64 16])) (((((((wx.setCell ⟨G, 0, none⟩ (.int .i64 0)).setCell ⟨G, 1, none⟩ (.int .i64 0)).setCell ⟨G, 2, none⟩ (.int .i64 0)).setCell ⟨G, 3, none⟩ (.int .i64 0)).setCell ⟨G, 4, none⟩ (.slice none 0 0)).setCell ⟨G, 5, none⟩ (.slice none 0 0)).setCell ⟨G, 6, none⟩ (.slice none 0 0)))
    (hRest : ∀ (wx : World) (pn : Option Addr) (ln cn : Nat) (nats : List (List Int)) (y1 y3 y5 y6 y7 y8 y10 y11 y12 y13 y14 y15 y16 y17 y18 y19 y20 y21 y22 y23 y24 y25 y26 y27 y28 y29 y30 y31 y32 y33 y34 y35 y36 y37 y38 y39 y40 y41 y42 y43 y44 y45 y46 y47 y48 y49 y50 y51 y52 y53 y54 y55 y56 y57 y58 y59 y60 y61 y62 y63 y64 y65 y66 y67 y68 y69 y70 y71 y72 y73 y74 y75 y76 y77 y78 y79 y80 y81 y82 y83 y84 y85 y86 y87 y88 y89 y90 y91 y92 y93 y94 y95 y96 y97 y98 y99 y100 y101 y102 y103 y104 y105 y106 y107 y108 y109 y110 y111 y112 y113 y114 y115 y116 y117 y118 y119 y120 y121 y122 y123 y124 : Value), MsgAt wx q k a b c pi li ci pr lr cr pn ln cn → NOwn wx W.heap.size (.slice pn ln cn) nats → nats.length = n → V.grownBy wx (some g) → Kp W wx → (∀ bss T y, BlobsOf bss y → R0 = y ++ T → bss.length = n → (∀ d, d ∈ bss → d.length ≤ 32) → ∀ j, j < n → ∃ er, Res (val 256 (bss.getD j []).reverse) (nats.getD j []) er) → Code.wp Try.prog REST (bodyPost Try.prog Try.f14 post) ⟨#[X0, y1, .pointer (some ⟨G, 0, none⟩), y3, .pointer (some ⟨g, 0, none⟩), y5, y6, y7, y8, .pointer (some ⟨q, 0, none⟩), y10, y11, y12, y13, y14, y15, y16, y17, y18, y19, y20, y21, y22, y23, y24, y25, y26, y27, y28, y29, y30, y31, y32, y33, y34, y35, y36, y37, y38, y39, y40, y41, y42, y43, y44, y45, y46, y47, y48, y49, y50, y51, y52, y53, y54, y55, y56, y57, y58, y59, y60, y61, y62, y63, y64, y65, y66, y67, y68, y69, y70, y71, y72, y73, y74, y75, y76, y77, y78, y79, y80, y81, y82, y83, y84, y85, y86, y87, y88, y89, y90, y91, y92, y93, y94, y95, y96, y97, y98, y99, y100, y101, y102, y103, y104, y105, y106, y107, y108, y109, y110, y111, y112, y113, y114, y115, y116, y117, y118, y119, y120, y121, y122, y123, y124], []⟩ wx) :
    Code.wp Try.prog (.seq ((Try.f14.body.bind (stmtAt 20)).getD .skip) REST) (bodyPost Try.prog Try.f14 post) ⟨#[X0, x1, .pointer (some ⟨G, 0, none⟩), x3, .pointer (some ⟨g, 0, none⟩), x5, x6, x7, x8, .pointer (some ⟨q, 0, none⟩), x10, x11, x12, x13, .int .u64 (n : Int), x15, x16, x17, x18, x19, x20, x21, x22, x23, x24, x25, x26, x27, x28, x29, x30, x31, x32, x33, x34, x35, x36, x37, x38, x39, x40, x41, x42, x43, x44, x45, x46, x47, x48, x49, x50, x51, x52, x53, x54, x55, x56, x57, x58, x59, x60, x61, x62, x63, x64, x65, x66, x67, x68, x69, x70, x71, x72, x73, x74, x75, x76, x77, x78, x79, x80, x81, x82, x83, x84, x85, x86, x87, x88, x89, x90, x91, x92, x93, x94, x95, x96, x97, x98, x99, x100, x101, x102, x103, x104, x105, x106, x107, x108, x109, x110, x111, x112, x113, x114, x115, x116, x117, x118, x119, x120, x121, x122, x123, x124], []⟩ W := by
  conv => arg 2; arg 1; whnf
  have HEnd : Hid (∀ wx : World, V.grownBy wx (some g) → (∀ bss T y, BlobsOf bss y → R0 = y ++ T → bss.length = n → (∀ d, d ∈ bss → d.length ≤ 32) → False) → post (.returned (.tuple #[.agg #[.int .i64 0, .int .i64 0, .int .i64 0, .int .i64 0, .slice none 0 0, .slice none 0 0, .slice none 0 0], .int .i64 16])) (((((((wx.setCell ⟨G, 0, none⟩ (.int .i64 0)).setCell ⟨G, 1, none⟩ (.int .i64 0)).setCell ⟨G, 2, none⟩ (.int .i64 0)).setCell ⟨G, 3, none⟩ (.int .i64 0)).setCell ⟨G, 4, none⟩ (.slice none 0 0)).setCell ⟨G, 5, none⟩ (.slice none 0 0)).setCell ⟨G, 6, none⟩ (.slice none 0 0))) := hEnd
  have HRest : Hid (∀ (wx : World) (pn : Option Addr) (ln cn : Nat) (nats : List (List Int)) (y1 y3 y5 y6 y7 y8 y10 y11 y12 y13 y14 y15 y16 y17 y18 y19 y20 y21 y22 y23 y24 y25 y26 y27 y28 y29 y30 y31 y32 y33 y34 y35 y36 y37 y38 y39 y40 y41 y42 y43 y44 y45 y46 y47 y48 y49 y50 y51 y52 y53 y54 y55 y56 y57 y58 y59 y60 y61 y62 y63 y64 y65 y66 y67 y68 y69 y70 y71 y72 y73 y74 y75 y76 y77 y78 y79 y80 y81 y82 y83 y84 y85 y86 y87 y88 y89 y90 y91 y92 y93 y94 y95 y96 y97 y98 y99 y100 y101 y102 y103 y104 y105 y106 y107 y108 y109 y110 y111 y112 y113 y114 y115 y116 y117 y118 y119 y120 y121 y122 y123 y124 : Value), MsgAt wx q k a b c pi li ci pr lr cr pn ln cn → NOwn wx W.heap.size (.slice pn ln cn) nats → nats.length = n → V.grownBy wx (some g) → Kp W wx → (∀ bss T y, BlobsOf bss y → R0 = y ++ T → bss.length = n → (∀ d, d ∈ bss → d.length ≤ 32) → ∀ j, j < n → ∃ er, Res (val 256 (bss.getD j []).reverse) (nats.getD j []) er) → Code.wp Try.prog REST (bodyPost Try.prog Try.f14 post) ⟨#[X0, y1, .pointer (some ⟨G, 0, none⟩), y3, .pointer (some ⟨g, 0, none⟩), y5, y6, y7, y8, .pointer (some ⟨q, 0, none⟩), y10, y11, y12, y13, y14, y15, y16, y17, y18, y19, y20, y21, y22, y23, y24, y25, y26, y27, y28, y29, y30, y31, y32, y33, y34, y35, y36, y37, y38, y39, y40, y41, y42, y43, y44, y45, y46, y47, y48, y49, y50, y51, y52, y53, y54, y55, y56, y57, y58, y59, y60, y61, y62, y63, y64, y65, y66, y67, y68, y69, y70, y71, y72, y73, y74, y75, y76, y77, y78, y79, y80, y81, y82, y83, y84, y85, y86, y87, y88, y89, y90, y91, y92, y93, y94, y95, y96, y97, y98, y99, y100, y101, y102, y103, y104, y105, y106, y107, y108, y109, y110, y111, y112, y113, y114, y115, y116, y117, y118, y119, y120, y121, y122, y123, y124], []⟩ wx) := hRest
  have HG : Hid (MsgAt V G 0 0 0 0 none 0 0 none 0 0 none 0 0) := hG
  have hGV := hG.lt
  have hqW := hM.lt
  have hVW := hgr.size
  clear hEnd hRest hG
  go_wp2_with fail
  go_loopw [16] (fun v16 wr => ∃ (i : Nat) (pn : Option Addr) (ln cn : Nat) (nats : List (List Int)) (R : List Int), v16 = .int .u64 i ∧ i ≤ n ∧ nats.length = i ∧ MsgAt wr q k a b c pi li ci pr lr cr pn ln cn ∧ NOwn wr W.heap.size (.slice pn ln cn) nats ∧ RRdQ (· < V.heap.size) wr g R ∧ V.grownBy wr (some g) ∧ Hid (W.heap.size ≤ wr.heap.size ∧ Kp W wr) ∧ Hid (∀ bss T y, BlobsOf bss y → R0 = y ++ T → bss.length = n → (∀ d, d ∈ bss → d.length ≤ 32) → (∀ j, j < i → ∃ er, Res (val 256 (bss.getD j []).reverse) (nats.getD j []) er) ∧ ∃ y', BlobsOf (bss.drop i) y' ∧ R = y' ++ T)) (fun v16 _ => n - (intOf v16).toNat)
  case atStart => exact ⟨0, none, 0, 0, [], R0, rfl, Nat.zero_le _, rfl, hM, NOwn.nil _ _, hR, hgr, ⟨Nat.le_refl _, Kp.refl _⟩, fun bss T y h1 h2 h3 h4 => ⟨fun j hj => absurd hj (Nat.not_lt_zero _), y, h1, h2⟩⟩
  case round =>
    clear hM hR hgr
    obtain ⟨i, pn, ln, cn, nats, R, rfl, hi, hnl, hM, hO, hR, hgr, HK, HF⟩ := hrel
    by_cases hlt : i < n
    · have hlti : (i : Int) < (n : Int) := by omega
      have hsz := HK.out.1
      have hqr := hM.lt
      clear HRest
      go_wp2_with fail
      refine (r9rbyt_any g R 32 _ hR (by decide)).mono ?_
      rintro e w2 ⟨ya, yl, yc, ys, e2, R2, rfl, ⟨hY, -, -⟩, hr2, hA2, hg2⟩
      have hgg := grown_then hgr hg2
      have hM2 := hM.kept (hg2.block q hqr (by simp; omega))
      have hO2 := hO.grown hg2 (by omega) hR.notP
      have hK2 : Kp W w2 := HK.out.2.trans (Kp.grown hg2 (fun b e => by cases e; exact hR.notP))
      have hsz2 : W.heap.size ≤ w2.heap.size := Nat.le_trans hsz hg2.size
      have STEP2 : Hid (∀ bss T y, BlobsOf bss y → R0 = y ++ T → bss.length = n → (∀ d, d ∈ bss → d.length ≤ 32) → e2 = 0 ∧ ys = bss.getD i [] ∧ (∀ j, j < i → ∃ er, Res (val 256 (bss.getD j []).reverse) (nats.getD j []) er) ∧ ∃ y', BlobsOf (bss.drop (i + 1)) y' ∧ R2 = y' ++ T) := fun bss T y h1 h2 h3 h4 => by
        obtain ⟨f2, y', f3, f4⟩ := HF.out bss T y h1 h2 h3 h4
        have hil : i < bss.length := by omega
        rw [List.drop_eq_getElem_cons hil] at f3
        obtain ⟨c', r, k1, k2, rfl⟩ := f3
        rw [List.append_assoc, List.append_assoc] at f4
        have hm := h4 _ (List.getElem_mem hil)
        obtain ⟨q1, q2, q3⟩ := hr2.at k1 (by omega) (by omega) f4
        exact ⟨q2, by rw [q1]; simp [List.getD, hil], f2, r, k2, q3⟩
      clear HF hr2 hgr hg2 hR hM hO HK
      by_cases z2 : e2 = 0
      case neg =>
        have hGw : MsgAt w2 G 0 0 0 0 none 0 0 none 0 0 none 0 0 := HG.out.kept (hgg.block G hGV (by simp; omega))
        obtain ⟨⟨r0, r1, r2, r3, r4, r5, r6⟩, fz⟩ := hGw.cells
        have HB : Hid (post (.returned (.tuple #[.agg #[.int .i64 0, .int .i64 0, .int .i64 0, .int .i64 0, .slice none 0 0, .slice none 0 0, .slice none 0 0], .int .i64 16])) (((((((w2.setCell ⟨G, 0, none⟩ (.int .i64 0)).setCell ⟨G, 1, none⟩ (.int .i64 0)).setCell ⟨G, 2, none⟩ (.int .i64 0)).setCell ⟨G, 3, none⟩ (.int .i64 0)).setCell ⟨G, 4, none⟩ (.slice none 0 0)).setCell ⟨G, 5, none⟩ (.slice none 0 0)).setCell ⟨G, 6, none⟩ (.slice none 0 0))) := HEnd.out w2 hgg (fun bss T y h1 h2 h3 h4 => z2 (STEP2.out bss T y h1 h2 h3 h4).1)
        have z2d : (e2 != 0) = true := by simp [z2]
        have z2e : (e2 == 0) = false := by simp [z2]
        have f0 := fz 0
        have f1 := fz 1
        have f2 := fz 2
        have f3 := fz 3
        have f4 := fz 4
        have f5 := fz 5
        have f6 := fz 6
        clear HEnd STEP2 hA2 hM2 hO2 hK2 hgg fz hGw z2 hY
        go_wp2_with fail
        exact bodyPost_ret (v := .tuple #[.agg #[.int .i64 0, .int .i64 0, .int .i64 0, .int .i64 0, .slice none 0 0, .slice none 0 0, .slice none 0 0], .int .i64 16]) (by simp [results, Try.results14, go_sem, r0, r1, r2, r3, r4, r5, r6]) rfl HB.out
      subst z2
      go_wp2_with fail
      refine (refRead_new ya yl yc ys _ hY).mono ?_
      rintro e w3 ⟨za, zl, zc, zs, er, rfl, hZ, hRes, hfr, hb3⟩
      have hM3 := hM2.kept (hb3.block q hM2.lt)
      have hO3 := hO2.below hb3
      have hA3 := hA2.below hb3
      have hgg3 := grown_low hgg (hb3.mono hgg.size)
      have hK3 := hK2.trans (Kp.below hb3)
      have hsz3 : W.heap.size ≤ w3.heap.size := Nat.le_trans hsz2 hb3.size
      have hZG : NumG w3 za zl zc zs := ⟨hZ, fun ad e _ => by
        obtain ⟨-, cur, hc⟩ := hfr ad e
        exact ⟨cur, _, hc, .inr (.inl rfl)⟩⟩
      have HRS : Hid (Res (val 256 ys.reverse) zs er) := hRes
      clear hY hM2 hO2 hA2 hgg hK2 hsz2 hZ hRes hfr hb3
      have hlit := balloc w3 (.cells #[.slice za zl zc] 47)
      obtain ⟨⟨r0, r1, r2, r3, r4, r5, r6⟩, -⟩ := (hM3.kept (hlit.block q hM3.lt)).cells
      obtain ⟨⟨o0, o1, o2, o3, o4, o5, o6⟩, -⟩ := hM3.cells
      have hO4 := hO3.below hlit
      have hZ4 := hZG.kp (Kp.below hlit)
      have HW4 : Hid (MsgAt (w3.alloc (.cells #[.slice za zl zc] 47)) q k a b c pi li ci pr lr cr pn ln cn ∧ NOwn (w3.alloc (.cells #[.slice za zl zc] 47)) W.heap.size (.slice pn ln cn) nats ∧ RRdQ (· < V.heap.size) (w3.alloc (.cells #[.slice za zl zc] 47)) g R2 ∧ V.grownBy (w3.alloc (.cells #[.slice za zl zc] 47)) (some g) ∧ Kp W (w3.alloc (.cells #[.slice za zl zc] 47))) := ⟨hM3.kept (hlit.block q hM3.lt), hO4, hA3.below hlit, grown_low hgg3 (hlit.mono hgg3.size), hK3.trans (Kp.below hlit)⟩
      have hnl2 : nats.length < 1000000 := by omega
      clear hM3 hO3 hA3 hgg3 hK3 hlit hZG
      go_wp2_with (at_builtin; refine wpList_appN1 _ rfl _ _ 23 rfl Try.underlying23 W.heap.size _ nats rfl hO4 ⟨w3.heap.size, 0, none⟩ za zl zc zs rfl ?c1 hZ4 hnl2 ?c2 ?_)
      case c1 => simp
      case c2 => simp; omega
      intro v5 w5 hO5 hg5
      have hb5 : Below W.heap.size (w3.alloc (.cells #[.slice za zl zc] 47)) w5 := HW4.out.2.1.low hg5 (by simp; omega)
      have hM5 := HW4.out.1.kept (hb5.block q hqW)
      have hA5 := HW4.out.2.2.1.other hgV (hb5.mono hVW)
      have hgg5 := grown_low HW4.out.2.2.2.1 (hb5.mono hVW)
      have hK5 := HW4.out.2.2.2.2.trans (Kp.grown hg5 HW4.out.2.1.notP)
      obtain ⟨a5, c5, rfl, -, -⟩ := hO5.row
      have hq5 := grown_set w5 q 6 (.slice a5 (nats ++ [zs]).length c5)
      obtain ⟨⟨s0, s1, s2, s3, s4, s5, s6⟩, fz⟩ := hM5.cells
      have f6 := fz 6
      have hbq : Below V.heap.size w5 (w5.setCell ⟨q, 6, none⟩ (.slice a5 (nats ++ [zs]).length c5)) := (Below.refl _ _).setCell (p := ⟨q, 6, none⟩) hq _
      have HX : Hid (MsgAt (w5.setCell ⟨q, 6, none⟩ (.slice a5 (nats ++ [zs]).length c5)) q k a b c pi li ci pr lr cr a5 (nats ++ [zs]).length c5 ∧ NOwn (w5.setCell ⟨q, 6, none⟩ (.slice a5 (nats ++ [zs]).length c5)) W.heap.size (.slice a5 (nats ++ [zs]).length c5) (nats ++ [zs]) ∧ RRdQ (· < V.heap.size) (w5.setCell ⟨q, 6, none⟩ (.slice a5 (nats ++ [zs]).length c5)) g R2 ∧ V.grownBy (w5.setCell ⟨q, 6, none⟩ (.slice a5 (nats ++ [zs]).length c5)) (some g) ∧ (W.heap.size ≤ (w5.setCell ⟨q, 6, none⟩ (.slice a5 (nats ++ [zs]).length c5)).heap.size ∧ Kp W (w5.setCell ⟨q, 6, none⟩ (.slice a5 (nats ++ [zs]).length c5)))) := ⟨hM5.set6 _ _ _, hO5.grown hq5 hqW hM5.plain, hA5.other hgV hbq, grown_low hgg5 hbq, (hK5.trans (Kp.grown hq5 (fun b e => by cases e; exact hM5.plain))).size, hK5.trans (Kp.grown hq5 (fun b e => by cases e; exact hM5.plain))⟩
      have HS5 : Hid (∀ bss T y, BlobsOf bss y → R0 = y ++ T → bss.length = n → (∀ d, d ∈ bss → d.length ≤ 32) → (∀ j, j < i + 1 → ∃ er, Res (val 256 (bss.getD j []).reverse) ((nats ++ [zs]).getD j []) er) ∧ ∃ y', BlobsOf (bss.drop (i + 1)) y' ∧ R2 = y' ++ T) := fun bss T y h1 h2 h3 h4 => by
        obtain ⟨-, f1, f2, f3⟩ := STEP2.out bss T y h1 h2 h3 h4
        refine ⟨fun j hj => ?_, f3⟩
        by_cases e : j = i
        · subst e
          refine ⟨er, ?_⟩
          rw [← f1, show (nats ++ [zs]).getD j [] = zs by rw [← hnl]; simp [List.getD]]
          exact HRS.out
        · rw [show (nats ++ [zs]).getD j [] = nats.getD j [] by unfold List.getD; rw [List.getElem?_append_left (by omega)]]
          exact f2 j (by omega)
      have HNL : Hid ((nats ++ [zs]).length = i + 1) := by show _ = _; simp [hnl]
      rw [HNL.out] at HX
      clear hM5 hO5 hA5 hgg5 hK5 hb5 hg5 HW4 hO4 hZ4 hq5 hbq fz STEP2 HRS HEnd
      go_wp2_with fail
      go_roundw
      case rel => exact ⟨i + 1, a5, _, c5, nats ++ [zs], R2, by go_num, by omega, HNL.out, HX.out.1, HX.out.2.1, HX.out.2.2.1, HX.out.2.2.2.1, HX.out.2.2.2.2, HS5.out⟩
      case measure => simp [intOf]; omega
    · obtain rfl : i = n := by omega
      have HX : Hid (MsgAt wr q k a b c pi li ci pr lr cr pn ln cn ∧ NOwn wr W.heap.size (.slice pn ln cn) nats ∧ V.grownBy wr (some g)) := ⟨hM, hO, hgr⟩
      have HSP : Hid (∀ bss T y, BlobsOf bss y → R0 = y ++ T → bss.length = i → (∀ d, d ∈ bss → d.length ≤ 32) → ∀ j, j < i → ∃ er, Res (val 256 (bss.getD j []).reverse) (nats.getD j []) er) := fun bss T y h1 h2 h3 h4 => (HF.out bss T y h1 h2 h3 h4).1
      clear HEnd HF hM hO hgr hR
      go_wp2_with fail
      exact HRest.out _ pn ln cn nats _ _ _ _ _ _ _ _ _ _ _ _ _ _ _ _ _ _ _ _ _ _ _ _ _ _ _ _ _ _ _ _ _ _ _ _ _ _ _ _ _ _ _ _ _ _ _ _ _ _ _ _ _ _ _ _ _ _ _ _ _ _ _ _ _ _ _ _ _ _ _ _ _ _ _ _ _ _ _ _ _ _ _ _ _ _ _ _ _ _ _ _ _ _ _ _ _ _ _ _ _ _ _ _ _ _ _ _ _ _ _ _ _ _ _ _ _ _ _ _ _ HX.out.1 HX.out.2.1 hnl HX.out.2.2 HK.out.2 HSP.out
end Go.Proofs.Ytnbdbahfekneoaa

namespace Go.Proofs.Ytnbdbahfekneoaa
open Go.RowKit

theorem strOf_list12 (bs : List Int) : (strOf bs).data.toList = bs.map (fun n => UInt8.ofNat n.toNat) := by
  have h : ∀ (bs : List Int) (r : ByteArray), (bs.foldl (fun r n => r.push (UInt8.ofNat n.toNat)) r).data.toList = r.data.toList ++ bs.map (fun n => UInt8.ofNat n.toNat) := by
    intro bs
    induction bs with
    | nil => intro r; simp
    | cons b bs ih =>
      intro r
      rw [List.foldl_cons, ih]
      simp [ByteArray.push]
  have := h bs ByteArray.empty
  simpa [strOf] using this
theorem strOf_inj12 {xs ys : List Int} (hx : Digs 256 xs) (hy : Digs 256 ys) (h : strOf xs = strOf ys) : xs = ys := by
  have h1 := congrArg (fun s => s.data.toList) h
  simp only [strOf_list12] at h1
  have hl := congrArg List.length h1
  simp at hl
  refine List.ext_getElem hl (fun i h2 h3 => ?_)
  have h4 := congrArg (fun l => l[i]?) h1
  simp [h2, h3] at h4
  have a1 := hx xs[i] (List.getElem_mem h2)
  have a2 := hy ys[i] (List.getElem_mem h3)
  have h5 := congrArg UInt8.toNat h4
  simp at h5
  omega

set_option maxRecDepth 100000 in
set_option maxHeartbeats 12800000 in
theorem dec_s28 {x1 x3 x5 x6 x7 x8 x10 x11 x12 x13 x14 x15 x16 x17 x18 x19 x20 x21 x22 x23 x24 x25 x26 x27 x28 x29 x30 x31 x32 x33 x34 x35 x36 x37 x38 x39 x40 x41 x42 x43 x44 x45 x46 x47 x48 x49 x50 x51 x52 x53 x54 x55 x56 x57 x58 x59 x60 x61 x62 x63 x64 x65 x66 x67 x68 x69 x70 x71 x72 x73 x74 x75 x76 x77 x78 x79 x80 x81 x82 x83 x84 x85 x86 x87 x88 x89 x90 x91 x92 x93 x94 x95 x96 x97 x98 x99 x100 x101 x102 x103 x104 x105 x106 x107 x108 x109 x110 x111 x112 x113 x114 x115 x116 x117 x118 x119 x120 x121 x122 x123 x124 : Value} {X0 : Value} {REST : Code} {post : Ending → World → Prop} {W : World} {G g q : Nat} {k a b c : Int} {pi pr pn : Option Addr} {li ci lr cr ln cn : Nat} {ids rows : List Int} {nats : List (List Int)} (hM : MsgAt W q k a b c pi li ci pr lr cr pn ln cn) (hI : Lsts W pi li ci ids) (hR : Lsts W pr lr cr rows) (hN : NRow W pn ln cn nats)
    (hRest : ∀ (wx : World) (a1 : Option Addr) (l1 c1 : Nat) (er : Int) (y1 y3 y4 y5 y6 y7 y8 y10 y11 y12 y13 y14 y15 y16 y17 y18 y19 y20 y23 y24 y25 y26 y27 y28 y29 y30 y31 y32 y33 y34 y35 y36 y37 y38 y39 y40 y41 y42 y43 y44 y45 y46 y47 y48 y49 y50 y51 y52 y53 y54 y55 y56 y57 y58 y59 y60 y61 y62 y63 y64 y65 y66 y67 y68 y69 y70 y71 y72 y73 y74 y75 y76 y77 y78 y79 y80 y81 y82 y83 y84 y85 y86 y87 y88 y89 y90 y91 y92 y93 y94 y95 y96 y97 y98 y99 y100 y101 y102 y103 y104 y105 y106 y107 y108 y109 y110 y111 y112 y113 y114 y115 y116 y117 y118 y119 y120 y121 y122 y123 y124 : Value), WireT k a b c ids rows nats W (.returned (.tuple #[.slice a1 l1 c1, .int .i64 er])) wx → Code.wp Try.prog REST (bodyPost Try.prog Try.f14 post) ⟨#[X0, y1, .pointer (some ⟨G, 0, none⟩), y3, y4, y5, y6, y7, y8, .pointer (some ⟨q, 0, none⟩), y10, y11, y12, y13, y14, y15, y16, y17, y18, y19, y20, .slice a1 l1 c1, .int .i64 er, y23, y24, y25, y26, y27, y28, y29, y30, y31, y32, y33, y34, y35, y36, y37, y38, y39, y40, y41, y42, y43, y44, y45, y46, y47, y48, y49, y50, y51, y52, y53, y54, y55, y56, y57, y58, y59, y60, y61, y62, y63, y64, y65, y66, y67, y68, y69, y70, y71, y72, y73, y74, y75, y76, y77, y78, y79, y80, y81, y82, y83, y84, y85, y86, y87, y88, y89, y90, y91, y92, y93, y94, y95, y96, y97, y98, y99, y100, y101, y102, y103, y104, y105, y106, y107, y108, y109, y110, y111, y112, y113, y114, y115, y116, y117, y118, y119, y120, y121, y122, y123, y124], []⟩ wx) :
    Code.wp Try.prog (.seq ((Try.f14.body.bind (stmtAt 28)).getD .skip) REST) (bodyPost Try.prog Try.f14 post) ⟨#[X0, x1, .pointer (some ⟨G, 0, none⟩), x3, .pointer (some ⟨g, 0, none⟩), x5, x6, x7, x8, .pointer (some ⟨q, 0, none⟩), x10, x11, x12, x13, x14, x15, x16, x17, x18, x19, x20, x21, x22, x23, x24, x25, x26, x27, x28, x29, x30, x31, x32, x33, x34, x35, x36, x37, x38, x39, x40, x41, x42, x43, x44, x45, x46, x47, x48, x49, x50, x51, x52, x53, x54, x55, x56, x57, x58, x59, x60, x61, x62, x63, x64, x65, x66, x67, x68, x69, x70, x71, x72, x73, x74, x75, x76, x77, x78, x79, x80, x81, x82, x83, x84, x85, x86, x87, x88, x89, x90, x91, x92, x93, x94, x95, x96, x97, x98, x99, x100, x101, x102, x103, x104, x105, x106, x107, x108, x109, x110, x111, x112, x113, x114, x115, x116, x117, x118, x119, x120, x121, x122, x123, x124], []⟩ W := by
  conv => arg 2; arg 1; whnf
  have HRest : Hid (∀ (wx : World) (a1 : Option Addr) (l1 c1 : Nat) (er : Int) (y1 y3 y4 y5 y6 y7 y8 y10 y11 y12 y13 y14 y15 y16 y17 y18 y19 y20 y23 y24 y25 y26 y27 y28 y29 y30 y31 y32 y33 y34 y35 y36 y37 y38 y39 y40 y41 y42 y43 y44 y45 y46 y47 y48 y49 y50 y51 y52 y53 y54 y55 y56 y57 y58 y59 y60 y61 y62 y63 y64 y65 y66 y67 y68 y69 y70 y71 y72 y73 y74 y75 y76 y77 y78 y79 y80 y81 y82 y83 y84 y85 y86 y87 y88 y89 y90 y91 y92 y93 y94 y95 y96 y97 y98 y99 y100 y101 y102 y103 y104 y105 y106 y107 y108 y109 y110 y111 y112 y113 y114 y115 y116 y117 y118 y119 y120 y121 y122 y123 y124 : Value), WireT k a b c ids rows nats W (.returned (.tuple #[.slice a1 l1 c1, .int .i64 er])) wx → Code.wp Try.prog REST (bodyPost Try.prog Try.f14 post) ⟨#[X0, y1, .pointer (some ⟨G, 0, none⟩), y3, y4, y5, y6, y7, y8, .pointer (some ⟨q, 0, none⟩), y10, y11, y12, y13, y14, y15, y16, y17, y18, y19, y20, .slice a1 l1 c1, .int .i64 er, y23, y24, y25, y26, y27, y28, y29, y30, y31, y32, y33, y34, y35, y36, y37, y38, y39, y40, y41, y42, y43, y44, y45, y46, y47, y48, y49, y50, y51, y52, y53, y54, y55, y56, y57, y58, y59, y60, y61, y62, y63, y64, y65, y66, y67, y68, y69, y70, y71, y72, y73, y74, y75, y76, y77, y78, y79, y80, y81, y82, y83, y84, y85, y86, y87, y88, y89, y90, y91, y92, y93, y94, y95, y96, y97, y98, y99, y100, y101, y102, y103, y104, y105, y106, y107, y108, y109, y110, y111, y112, y113, y114, y115, y116, y117, y118, y119, y120, y121, y122, y123, y124], []⟩ wx) := hRest
  clear hRest
  obtain ⟨⟨r0, r1, r2, r3, r4, r5, r6⟩, -⟩ := hM.cells
  go_wp2_with fail
  refine (r12enc_any k a b c pi pr pn li ci lr cr ln cn ids rows nats _ hI hR hN).mono ?_
  rintro e wx ⟨a1, l1, c1, ys, er, rfl, hT⟩
  have HT : Hid (WireT k a b c ids rows nats W (.returned (.tuple #[.slice a1 l1 c1, .int .i64 er])) wx) := ⟨a1, l1, c1, ys, er, rfl, hT⟩
  clear hT hM hI hR hN r0 r1 r2 r3 r4 r5 r6
  dsimp only
  go_wp2_with fail
  exact HRest.out wx a1 l1 c1 er _ _ _ _ _ _ _ _ _ _ _ _ _ _ _ _ _ _ _ _ _ _ _ _ _ _ _ _ _ _ _ _ _ _ _ _ _ _ _ _ _ _ _ _ _ _ _ _ _ _ _ _ _ _ _ _ _ _ _ _ _ _ _ _ _ _ _ _ _ _ _ _ _ _ _ _ _ _ _ _ _ _ _ _ _ _ _ _ _ _ _ _ _ _ _ _ _ _ _ _ _ _ _ _ _ _ _ _ _ _ _ _ _ _ _ _ _ _ _ _ HT.out

set_option maxRecDepth 100000 in
set_option maxHeartbeats 12800000 in
theorem dec_s29 {x1 x3 x4 x5 x6 x7 x8 x10 x11 x12 x13 x14 x15 x16 x17 x18 x19 x20 x23 x24 x25 x26 x27 x28 x29 x30 x31 x32 x33 x34 x35 x36 x37 x38 x39 x40 x41 x42 x43 x44 x45 x46 x47 x48 x49 x50 x51 x52 x53 x54 x55 x56 x57 x58 x59 x60 x61 x62 x63 x64 x65 x66 x67 x68 x69 x70 x71 x72 x73 x74 x75 x76 x77 x78 x79 x80 x81 x82 x83 x84 x85 x86 x87 x88 x89 x90 x91 x92 x93 x94 x95 x96 x97 x98 x99 x100 x101 x102 x103 x104 x105 x106 x107 x108 x109 x110 x111 x112 x113 x114 x115 x116 x117 x118 x119 x120 x121 x122 x123 x124 : Value} {REST : Code} {post : Ending → World → Prop} {W : World} {G q : Nat} {b a1 : Option Addr} {lb cb l1 c1 : Nat} {er : Int} {ys L : List Int} (hG : MsgAt W G 0 0 0 0 none 0 0 none 0 0 none 0 0) (hY : Byts W a1 l1 c1 ys) (hL : Byts W b lb cb L)
    (hEnd : ¬ (er = 0 ∧ ys = L) → post (.returned (.tuple #[.agg #[.int .i64 0, .int .i64 0, .int .i64 0, .int .i64 0, .slice none 0 0, .slice none 0 0, .slice none 0 0], .int .i64 16])) (((((((W.setCell ⟨G, 0, none⟩ (.int .i64 0)).setCell ⟨G, 1, none⟩ (.int .i64 0)).setCell ⟨G, 2, none⟩ (.int .i64 0)).setCell ⟨G, 3, none⟩ (.int .i64 0)).setCell ⟨G, 4, none⟩ (.slice none 0 0)).setCell ⟨G, 5, none⟩ (.slice none 0 0)).setCell ⟨G, 6, none⟩ (.slice none 0 0)))
    (hRest : er = 0 ∧ ys = L → ∀ y0 y1 y3 y4 y5 y6 y7 y8 y10 y11 y12 y13 y14 y15 y16 y17 y18 y19 y20 y21 y22 y23 y24 y25 y26 y27 y28 y29 y30 y31 y32 y33 y34 y35 y36 y37 y38 y39 y40 y41 y42 y43 y44 y45 y46 y47 y48 y49 y50 y51 y52 y53 y54 y55 y56 y57 y58 y59 y60 y61 y62 y63 y64 y65 y66 y67 y68 y69 y70 y71 y72 y73 y74 y75 y76 y77 y78 y79 y80 y81 y82 y83 y84 y85 y86 y87 y88 y89 y90 y91 y92 y93 y94 y95 y96 y97 y98 y99 y100 y101 y102 y103 y104 y105 y106 y107 y108 y109 y110 y111 y112 y113 y114 y115 y116 y117 y118 y119 y120 y121 y122 y123 y124 : Value, Code.wp Try.prog REST (bodyPost Try.prog Try.f14 post) ⟨#[y0, y1, .pointer (some ⟨G, 0, none⟩), y3, y4, y5, y6, y7, y8, .pointer (some ⟨q, 0, none⟩), y10, y11, y12, y13, y14, y15, y16, y17, y18, y19, y20, y21, y22, y23, y24, y25, y26, y27, y28, y29, y30, y31, y32, y33, y34, y35, y36, y37, y38, y39, y40, y41, y42, y43, y44, y45, y46, y47, y48, y49, y50, y51, y52, y53, y54, y55, y56, y57, y58, y59, y60, y61, y62, y63, y64, y65, y66, y67, y68, y69, y70, y71, y72, y73, y74, y75, y76, y77, y78, y79, y80, y81, y82, y83, y84, y85, y86, y87, y88, y89, y90, y91, y92, y93, y94, y95, y96, y97, y98, y99, y100, y101, y102, y103, y104, y105, y106, y107, y108, y109, y110, y111, y112, y113, y114, y115, y116, y117, y118, y119, y120, y121, y122, y123, y124], []⟩ W) :
    Code.wp Try.prog (.seq ((Try.f14.body.bind (stmtAt 29)).getD .skip) REST) (bodyPost Try.prog Try.f14 post) ⟨#[.slice b lb cb, x1, .pointer (some ⟨G, 0, none⟩), x3, x4, x5, x6, x7, x8, .pointer (some ⟨q, 0, none⟩), x10, x11, x12, x13, x14, x15, x16, x17, x18, x19, x20, .slice a1 l1 c1, .int .i64 er, x23, x24, x25, x26, x27, x28, x29, x30, x31, x32, x33, x34, x35, x36, x37, x38, x39, x40, x41, x42, x43, x44, x45, x46, x47, x48, x49, x50, x51, x52, x53, x54, x55, x56, x57, x58, x59, x60, x61, x62, x63, x64, x65, x66, x67, x68, x69, x70, x71, x72, x73, x74, x75, x76, x77, x78, x79, x80, x81, x82, x83, x84, x85, x86, x87, x88, x89, x90, x91, x92, x93, x94, x95, x96, x97, x98, x99, x100, x101, x102, x103, x104, x105, x106, x107, x108, x109, x110, x111, x112, x113, x114, x115, x116, x117, x118, x119, x120, x121, x122, x123, x124], []⟩ W := by
  conv => arg 2; arg 1; whnf
  have HEnd : Hid (¬ (er = 0 ∧ ys = L) → post (.returned (.tuple #[.agg #[.int .i64 0, .int .i64 0, .int .i64 0, .int .i64 0, .slice none 0 0, .slice none 0 0, .slice none 0 0], .int .i64 16])) (((((((W.setCell ⟨G, 0, none⟩ (.int .i64 0)).setCell ⟨G, 1, none⟩ (.int .i64 0)).setCell ⟨G, 2, none⟩ (.int .i64 0)).setCell ⟨G, 3, none⟩ (.int .i64 0)).setCell ⟨G, 4, none⟩ (.slice none 0 0)).setCell ⟨G, 5, none⟩ (.slice none 0 0)).setCell ⟨G, 6, none⟩ (.slice none 0 0))) := hEnd
  have HRest : Hid (er = 0 ∧ ys = L → ∀ y0 y1 y3 y4 y5 y6 y7 y8 y10 y11 y12 y13 y14 y15 y16 y17 y18 y19 y20 y21 y22 y23 y24 y25 y26 y27 y28 y29 y30 y31 y32 y33 y34 y35 y36 y37 y38 y39 y40 y41 y42 y43 y44 y45 y46 y47 y48 y49 y50 y51 y52 y53 y54 y55 y56 y57 y58 y59 y60 y61 y62 y63 y64 y65 y66 y67 y68 y69 y70 y71 y72 y73 y74 y75 y76 y77 y78 y79 y80 y81 y82 y83 y84 y85 y86 y87 y88 y89 y90 y91 y92 y93 y94 y95 y96 y97 y98 y99 y100 y101 y102 y103 y104 y105 y106 y107 y108 y109 y110 y111 y112 y113 y114 y115 y116 y117 y118 y119 y120 y121 y122 y123 y124 : Value, Code.wp Try.prog REST (bodyPost Try.prog Try.f14 post) ⟨#[y0, y1, .pointer (some ⟨G, 0, none⟩), y3, y4, y5, y6, y7, y8, .pointer (some ⟨q, 0, none⟩), y10, y11, y12, y13, y14, y15, y16, y17, y18, y19, y20, y21, y22, y23, y24, y25, y26, y27, y28, y29, y30, y31, y32, y33, y34, y35, y36, y37, y38, y39, y40, y41, y42, y43, y44, y45, y46, y47, y48, y49, y50, y51, y52, y53, y54, y55, y56, y57, y58, y59, y60, y61, y62, y63, y64, y65, y66, y67, y68, y69, y70, y71, y72, y73, y74, y75, y76, y77, y78, y79, y80, y81, y82, y83, y84, y85, y86, y87, y88, y89, y90, y91, y92, y93, y94, y95, y96, y97, y98, y99, y100, y101, y102, y103, y104, y105, y106, y107, y108, y109, y110, y111, y112, y113, y114, y115, y116, y117, y118, y119, y120, y121, y122, y123, y124], []⟩ W) := hRest
  obtain ⟨⟨r0, r1, r2, r3, r4, r5, r6⟩, fz⟩ := hG.cells
  have f0 := fz 0
  have f1 := fz 1
  have f2 := fz 2
  have f3 := fz 3
  have f4 := fz 4
  have f5 := fz 5
  have f6 := fz 6
  have dy := hY.digs
  have dl := hL.digs
  obtain ⟨S1, hS1⟩ : ∃ S1, S1 = strOf ys := ⟨_, rfl⟩
  obtain ⟨S2, hS2⟩ : ∃ S2, S2 = strOf L := ⟨_, rfl⟩
  have q1 := conv_any hY
  have q2 := conv_any hL
  rw [← hS1] at q1
  rw [← hS2] at q2
  clear hEnd hRest hG fz hY hL
  by_cases z : er = 0
  case neg =>
    have zd : (er != 0) = true := by simp [z]
    have ze : (er == 0) = false := by simp [z]
    have HB : Hid (post (.returned (.tuple #[.agg #[.int .i64 0, .int .i64 0, .int .i64 0, .int .i64 0, .slice none 0 0, .slice none 0 0, .slice none 0 0], .int .i64 16])) (((((((W.setCell ⟨G, 0, none⟩ (.int .i64 0)).setCell ⟨G, 1, none⟩ (.int .i64 0)).setCell ⟨G, 2, none⟩ (.int .i64 0)).setCell ⟨G, 3, none⟩ (.int .i64 0)).setCell ⟨G, 4, none⟩ (.slice none 0 0)).setCell ⟨G, 5, none⟩ (.slice none 0 0)).setCell ⟨G, 6, none⟩ (.slice none 0 0))) := HEnd.out (by simp [z])
    clear HEnd HRest
    go_wp2_with fail
    exact bodyPost_ret (v := .tuple #[.agg #[.int .i64 0, .int .i64 0, .int .i64 0, .int .i64 0, .slice none 0 0, .slice none 0 0, .slice none 0 0], .int .i64 16]) (by simp [results, Try.results14, go_sem, r0, r1, r2, r3, r4, r5, r6]) rfl HB.out
  subst z
  by_cases hS : S1 = S2
  · have hyl : ys = L := strOf_inj12 dy dl (by rw [← hS1, ← hS2]; exact hS)
    subst hS
    clear HEnd dy dl
    go_wp2_with fail
    exact HRest.out (by simp [hyl]) _ _ _ _ _ _ _ _ _ _ _ _ _ _ _ _ _ _ _ _ _ _ _ _ _ _ _ _ _ _ _ _ _ _ _ _ _ _ _ _ _ _ _ _ _ _ _ _ _ _ _ _ _ _ _ _ _ _ _ _ _ _ _ _ _ _ _ _ _ _ _ _ _ _ _ _ _ _ _ _ _ _ _ _ _ _ _ _ _ _ _ _ _ _ _ _ _ _ _ _ _ _ _ _ _ _ _ _ _ _ _ _ _ _ _ _ _ _ _ _ _ _ _
  · have hSb : (S1.toList == S2.toList) = false := by
      rw [ByteArray.toList_eq, ByteArray.toList_eq, beq_eq_false_iff_ne]
      exact fun e => hS (ByteArray.ext (Array.toList_inj.1 e))
    have hSc : (S1.toList != S2.toList) = true := by
      rw [bne, hSb]
      rfl
    have HB : Hid (post (.returned (.tuple #[.agg #[.int .i64 0, .int .i64 0, .int .i64 0, .int .i64 0, .slice none 0 0, .slice none 0 0, .slice none 0 0], .int .i64 16])) (((((((W.setCell ⟨G, 0, none⟩ (.int .i64 0)).setCell ⟨G, 1, none⟩ (.int .i64 0)).setCell ⟨G, 2, none⟩ (.int .i64 0)).setCell ⟨G, 3, none⟩ (.int .i64 0)).setCell ⟨G, 4, none⟩ (.slice none 0 0)).setCell ⟨G, 5, none⟩ (.slice none 0 0)).setCell ⟨G, 6, none⟩ (.slice none 0 0))) := HEnd.out (fun e => hS (by rw [hS1, hS2, e.2]))
    clear HEnd HRest hS dy dl hS1 hS2
    go_wp2_with fail
    exact bodyPost_ret (v := .tuple #[.agg #[.int .i64 0, .int .i64 0, .int .i64 0, .int .i64 0, .slice none 0 0, .slice none 0 0, .slice none 0 0], .int .i64 16]) (by simp [results, Try.results14, go_sem, r0, r1, r2, r3, r4, r5, r6]) rfl HB.out

set_option maxRecDepth 100000 in
set_option maxHeartbeats 12800000 in
theorem dec_s31 {x0 x1 x3 x4 x5 x6 x7 x8 x10 x11 x12 x13 x14 x15 x16 x17 x18 x19 x20 x21 x22 x23 x24 x25 x26 x27 x28 x29 x30 x31 x32 x33 x34 x35 x36 x37 x38 x39 x40 x41 x42 x43 x44 x45 x46 x47 x48 x49 x50 x51 x52 x53 x54 x55 x56 x57 x58 x59 x60 x61 x62 x63 x64 x65 x66 x67 x68 x69 x70 x71 x72 x73 x74 x75 x76 x77 x78 x79 x80 x81 x82 x83 x84 x85 x86 x87 x88 x89 x90 x91 x92 x93 x94 x95 x96 x97 x98 x99 x100 x101 x102 x103 x104 x105 x106 x107 x108 x109 x110 x111 x112 x113 x114 x115 x116 x117 x118 x119 x120 x121 x122 x123 x124 : Value} {post : Ending → World → Prop} {W : World} {G q : Nat} {k a b c : Int} {pi pr pn : Option Addr} {li ci lr cr ln cn : Nat} (hG : MsgAt W G 0 0 0 0 none 0 0 none 0 0 none 0 0) (hM : MsgAt W q k a b c pi li ci pr lr cr pn ln cn)
    (hEnd : post (.returned (.tuple #[.agg #[.int .i64 k, .int .i64 a, .int .i64 b, .int .i64 c, .slice pi li ci, .slice pr lr cr, .slice pn ln cn], .int .i64 0])) (((((((W.setCell ⟨G, 0, none⟩ (.int .i64 k)).setCell ⟨G, 1, none⟩ (.int .i64 a)).setCell ⟨G, 2, none⟩ (.int .i64 b)).setCell ⟨G, 3, none⟩ (.int .i64 c)).setCell ⟨G, 4, none⟩ (.slice pi li ci)).setCell ⟨G, 5, none⟩ (.slice pr lr cr)).setCell ⟨G, 6, none⟩ (.slice pn ln cn))) :
    Code.wp Try.prog ((Try.f14.body.bind (restAt 31)).getD .skip) (bodyPost Try.prog Try.f14 post) ⟨#[x0, x1, .pointer (some ⟨G, 0, none⟩), x3, x4, x5, x6, x7, x8, .pointer (some ⟨q, 0, none⟩), x10, x11, x12, x13, x14, x15, x16, x17, x18, x19, x20, x21, x22, x23, x24, x25, x26, x27, x28, x29, x30, x31, x32, x33, x34, x35, x36, x37, x38, x39, x40, x41, x42, x43, x44, x45, x46, x47, x48, x49, x50, x51, x52, x53, x54, x55, x56, x57, x58, x59, x60, x61, x62, x63, x64, x65, x66, x67, x68, x69, x70, x71, x72, x73, x74, x75, x76, x77, x78, x79, x80, x81, x82, x83, x84, x85, x86, x87, x88, x89, x90, x91, x92, x93, x94, x95, x96, x97, x98, x99, x100, x101, x102, x103, x104, x105, x106, x107, x108, x109, x110, x111, x112, x113, x114, x115, x116, x117, x118, x119, x120, x121, x122, x123, x124], []⟩ W := by
  conv => arg 2; whnf
  have HB : Hid (post (.returned (.tuple #[.agg #[.int .i64 k, .int .i64 a, .int .i64 b, .int .i64 c, .slice pi li ci, .slice pr lr cr, .slice pn ln cn], .int .i64 0])) (((((((W.setCell ⟨G, 0, none⟩ (.int .i64 k)).setCell ⟨G, 1, none⟩ (.int .i64 a)).setCell ⟨G, 2, none⟩ (.int .i64 b)).setCell ⟨G, 3, none⟩ (.int .i64 c)).setCell ⟨G, 4, none⟩ (.slice pi li ci)).setCell ⟨G, 5, none⟩ (.slice pr lr cr)).setCell ⟨G, 6, none⟩ (.slice pn ln cn))) := hEnd
  obtain ⟨⟨r0, r1, r2, r3, r4, r5, r6⟩, fz⟩ := hG.cells
  obtain ⟨⟨s0, s1, s2, s3, s4, s5, s6⟩, -⟩ := hM.cells
  have f0 := fz 0
  have f1 := fz 1
  have f2 := fz 2
  have f3 := fz 3
  have f4 := fz 4
  have f5 := fz 5
  have f6 := fz 6
  clear hEnd hG hM fz
  go_wp2_with fail
  exact bodyPost_ret (v := .tuple #[.agg #[.int .i64 k, .int .i64 a, .int .i64 b, .int .i64 c, .slice pi li ci, .slice pr lr cr, .slice pn ln cn], .int .i64 0]) (by simp [results, Try.results14, go_sem, r0, r1, r2, r3, r4, r5, r6]) rfl HB.out

end Go.Proofs.Ytnbdbahfekneoaa

namespace Go.Proofs.Ytnbdbahfekneoaa
open Go.RowKit

set_option maxRecDepth 100000 in
set_option maxHeartbeats 12800000 in
theorem dec_s0 {x1 x2 x3 x4 x5 x6 x7 x8 x9 x10 x11 x12 x13 x14 x15 x16 x17 x18 x19 x20 x21 x22 x23 x24 x25 x26 x27 x28 x29 x30 x31 x32 x33 x34 x35 x36 x37 x38 x39 x40 x41 x42 x43 x44 x45 x46 x47 x48 x49 x50 x51 x52 x53 x54 x55 x56 x57 x58 x59 x60 x61 x62 x63 x64 x65 x66 x67 x68 x69 x70 x71 x72 x73 x74 x75 x76 x77 x78 x79 x80 x81 x82 x83 x84 x85 x86 x87 x88 x89 x90 x91 x92 x93 x94 x95 x96 x97 x98 x99 x100 x101 x102 x103 x104 x105 x106 x107 x108 x109 x110 x111 x112 x113 x114 x115 x116 x117 x118 x119 x120 x121 x122 x123 x124 : Value} {X0 : Value} {REST : Code} {post : Ending → World → Prop} {W : World} 
    (hRest : ∀ (y1 y3 y4 y5 y6 y7 y8 y9 y10 y11 y12 y13 y14 y15 y16 y17 y18 y19 y20 y21 y22 y23 y24 y25 y26 y27 y28 y29 y30 y31 y32 y33 y34 y35 y36 y37 y38 y39 y40 y41 y42 y43 y44 y45 y46 y47 y48 y49 y50 y51 y52 y53 y54 y55 y56 y57 y58 y59 y60 y61 y62 y63 y64 y65 y66 y67 y68 y69 y70 y71 y72 y73 y74 y75 y76 y77 y78 y79 y80 y81 y82 y83 y84 y85 y86 y87 y88 y89 y90 y91 y92 y93 y94 y95 y96 y97 y98 y99 y100 y101 y102 y103 y104 y105 y106 y107 y108 y109 y110 y111 y112 y113 y114 y115 y116 y117 y118 y119 y120 y121 y122 y123 y124 : Value), Code.wp Try.prog REST (bodyPost Try.prog Try.f14 post) ⟨#[X0, y1, .pointer (some ⟨W.heap.size, 0, none⟩), y3, y4, y5, y6, y7, y8, y9, y10, y11, y12, y13, y14, y15, y16, y17, y18, y19, y20, y21, y22, y23, y24, y25, y26, y27, y28, y29, y30, y31, y32, y33, y34, y35, y36, y37, y38, y39, y40, y41, y42, y43, y44, y45, y46, y47, y48, y49, y50, y51, y52, y53, y54, y55, y56, y57, y58, y59, y60, y61, y62, y63, y64, y65, y66, y67, y68, y69, y70, y71, y72, y73, y74, y75, y76, y77, y78, y79, y80, y81, y82, y83, y84, y85, y86, y87, y88, y89, y90, y91, y92, y93, y94, y95, y96, y97, y98, y99, y100, y101, y102, y103, y104, y105, y106, y107, y108, y109, y110, y111, y112, y113, y114, y115, y116, y117, y118, y119, y120, y121, y122, y123, y124], []⟩ (W.alloc (.cells #[.int .i64 0, .int .i64 0, .int .i64 0, .int .i64 0, .slice none 0 0, .slice none 0 0, .slice none 0 0] 25))) :
    Code.wp Try.prog (.seq ((Try.f14.body.bind (stmtAt 0)).getD .skip) REST) (bodyPost Try.prog Try.f14 post) ⟨#[X0, x1, x2, x3, x4, x5, x6, x7, x8, x9, x10, x11, x12, x13, x14, x15, x16, x17, x18, x19, x20, x21, x22, x23, x24, x25, x26, x27, x28, x29, x30, x31, x32, x33, x34, x35, x36, x37, x38, x39, x40, x41, x42, x43, x44, x45, x46, x47, x48, x49, x50, x51, x52, x53, x54, x55, x56, x57, x58, x59, x60, x61, x62, x63, x64, x65, x66, x67, x68, x69, x70, x71, x72, x73, x74, x75, x76, x77, x78, x79, x80, x81, x82, x83, x84, x85, x86, x87, x88, x89, x90, x91, x92, x93, x94, x95, x96, x97, x98, x99, x100, x101, x102, x103, x104, x105, x106, x107, x108, x109, x110, x111, x112, x113, x114, x115, x116, x117, x118, x119, x120, x121, x122, x123, x124], []⟩ W := by
  conv => arg 2; arg 1; whnf
  have HRest : Hid (∀ (y1 y3 y4 y5 y6 y7 y8 y9 y10 y11 y12 y13 y14 y15 y16 y17 y18 y19 y20 y21 y22 y23 y24 y25 y26 y27 y28 y29 y30 y31 y32 y33 y34 y35 y36 y37 y38 y39 y40 y41 y42 y43 y44 y45 y46 y47 y48 y49 y50 y51 y52 y53 y54 y55 y56 y57 y58 y59 y60 y61 y62 y63 y64 y65 y66 y67 y68 y69 y70 y71 y72 y73 y74 y75 y76 y77 y78 y79 y80 y81 y82 y83 y84 y85 y86 y87 y88 y89 y90 y91 y92 y93 y94 y95 y96 y97 y98 y99 y100 y101 y102 y103 y104 y105 y106 y107 y108 y109 y110 y111 y112 y113 y114 y115 y116 y117 y118 y119 y120 y121 y122 y123 y124 : Value), Code.wp Try.prog REST (bodyPost Try.prog Try.f14 post) ⟨#[X0, y1, .pointer (some ⟨W.heap.size, 0, none⟩), y3, y4, y5, y6, y7, y8, y9, y10, y11, y12, y13, y14, y15, y16, y17, y18, y19, y20, y21, y22, y23, y24, y25, y26, y27, y28, y29, y30, y31, y32, y33, y34, y35, y36, y37, y38, y39, y40, y41, y42, y43, y44, y45, y46, y47, y48, y49, y50, y51, y52, y53, y54, y55, y56, y57, y58, y59, y60, y61, y62, y63, y64, y65, y66, y67, y68, y69, y70, y71, y72, y73, y74, y75, y76, y77, y78, y79, y80, y81, y82, y83, y84, y85, y86, y87, y88, y89, y90, y91, y92, y93, y94, y95, y96, y97, y98, y99, y100, y101, y102, y103, y104, y105, y106, y107, y108, y109, y110, y111, y112, y113, y114, y115, y116, y117, y118, y119, y120, y121, y122, y123, y124], []⟩ (W.alloc (.cells #[.int .i64 0, .int .i64 0, .int .i64 0, .int .i64 0, .slice none 0 0, .slice none 0 0, .slice none 0 0] 25))) := hRest
  clear hRest
  go_wp2_with fail
  exact HRest.out _ _ _ _ _ _ _ _ _ _ _ _ _ _ _ _ _ _ _ _ _ _ _ _ _ _ _ _ _ _ _ _ _ _ _ _ _ _ _ _ _ _ _ _ _ _ _ _ _ _ _ _ _ _ _ _ _ _ _ _ _ _ _ _ _ _ _ _ _ _ _ _ _ _ _ _ _ _ _ _ _ _ _ _ _ _ _ _ _ _ _ _ _ _ _ _ _ _ _ _ _ _ _ _ _ _ _ _ _ _ _ _ _ _ _ _ _ _ _ _ _ _ _

set_option maxRecDepth 100000 in
set_option maxHeartbeats 12800000 in
theorem dec_s1 {x1 x3 x4 x5 x6 x7 x8 x9 x10 x11 x12 x13 x14 x15 x16 x17 x18 x19 x20 x21 x22 x23 x24 x25 x26 x27 x28 x29 x30 x31 x32 x33 x34 x35 x36 x37 x38 x39 x40 x41 x42 x43 x44 x45 x46 x47 x48 x49 x50 x51 x52 x53 x54 x55 x56 x57 x58 x59 x60 x61 x62 x63 x64 x65 x66 x67 x68 x69 x70 x71 x72 x73 x74 x75 x76 x77 x78 x79 x80 x81 x82 x83 x84 x85 x86 x87 x88 x89 x90 x91 x92 x93 x94 x95 x96 x97 x98 x99 x100 x101 x102 x103 x104 x105 x106 x107 x108 x109 x110 x111 x112 x113 x114 x115 x116 x117 x118 x119 x120 x121 x122 x123 x124 : Value} {REST : Code} {post : Ending → World → Prop} {W : World} {G : Nat} {b : Option Addr} {lb cb : Nat} (hG : MsgAt W G 0 0 0 0 none 0 0 none 0 0 none 0 0) (hlb : lb < 9223372036854775808)
    (hEnd : 1048576 < lb → post (.returned (.tuple #[.agg #[.int .i64 0, .int .i64 0, .int .i64 0, .int .i64 0, .slice none 0 0, .slice none 0 0, .slice none 0 0], .int .i64 16])) (((((((W.setCell ⟨G, 0, none⟩ (.int .i64 0)).setCell ⟨G, 1, none⟩ (.int .i64 0)).setCell ⟨G, 2, none⟩ (.int .i64 0)).setCell ⟨G, 3, none⟩ (.int .i64 0)).setCell ⟨G, 4, none⟩ (.slice none 0 0)).setCell ⟨G, 5, none⟩ (.slice none 0 0)).setCell ⟨G, 6, none⟩ (.slice none 0 0)))
    (hRest : lb ≤ 1048576 → ∀ y1 y3 y4 y5 y6 y7 y8 y9 y10 y11 y12 y13 y14 y15 y16 y17 y18 y19 y20 y21 y22 y23 y24 y25 y26 y27 y28 y29 y30 y31 y32 y33 y34 y35 y36 y37 y38 y39 y40 y41 y42 y43 y44 y45 y46 y47 y48 y49 y50 y51 y52 y53 y54 y55 y56 y57 y58 y59 y60 y61 y62 y63 y64 y65 y66 y67 y68 y69 y70 y71 y72 y73 y74 y75 y76 y77 y78 y79 y80 y81 y82 y83 y84 y85 y86 y87 y88 y89 y90 y91 y92 y93 y94 y95 y96 y97 y98 y99 y100 y101 y102 y103 y104 y105 y106 y107 y108 y109 y110 y111 y112 y113 y114 y115 y116 y117 y118 y119 y120 y121 y122 y123 y124 : Value, Code.wp Try.prog REST (bodyPost Try.prog Try.f14 post) ⟨#[.slice b lb cb, y1, .pointer (some ⟨G, 0, none⟩), y3, y4, y5, y6, y7, y8, y9, y10, y11, y12, y13, y14, y15, y16, y17, y18, y19, y20, y21, y22, y23, y24, y25, y26, y27, y28, y29, y30, y31, y32, y33, y34, y35, y36, y37, y38, y39, y40, y41, y42, y43, y44, y45, y46, y47, y48, y49, y50, y51, y52, y53, y54, y55, y56, y57, y58, y59, y60, y61, y62, y63, y64, y65, y66, y67, y68, y69, y70, y71, y72, y73, y74, y75, y76, y77, y78, y79, y80, y81, y82, y83, y84, y85, y86, y87, y88, y89, y90, y91, y92, y93, y94, y95, y96, y97, y98, y99, y100, y101, y102, y103, y104, y105, y106, y107, y108, y109, y110, y111, y112, y113, y114, y115, y116, y117, y118, y119, y120, y121, y122, y123, y124], []⟩ W) :
    Code.wp Try.prog (.seq ((Try.f14.body.bind (stmtAt 1)).getD .skip) REST) (bodyPost Try.prog Try.f14 post) ⟨#[.slice b lb cb, x1, .pointer (some ⟨G, 0, none⟩), x3, x4, x5, x6, x7, x8, x9, x10, x11, x12, x13, x14, x15, x16, x17, x18, x19, x20, x21, x22, x23, x24, x25, x26, x27, x28, x29, x30, x31, x32, x33, x34, x35, x36, x37, x38, x39, x40, x41, x42, x43, x44, x45, x46, x47, x48, x49, x50, x51, x52, x53, x54, x55, x56, x57, x58, x59, x60, x61, x62, x63, x64, x65, x66, x67, x68, x69, x70, x71, x72, x73, x74, x75, x76, x77, x78, x79, x80, x81, x82, x83, x84, x85, x86, x87, x88, x89, x90, x91, x92, x93, x94, x95, x96, x97, x98, x99, x100, x101, x102, x103, x104, x105, x106, x107, x108, x109, x110, x111, x112, x113, x114, x115, x116, x117, x118, x119, x120, x121, x122, x123, x124], []⟩ W := by
  conv => arg 2; arg 1; whnf
  have HEnd : Hid (1048576 < lb → post (.returned (.tuple #[.agg #[.int .i64 0, .int .i64 0, .int .i64 0, .int .i64 0, .slice none 0 0, .slice none 0 0, .slice none 0 0], .int .i64 16])) (((((((W.setCell ⟨G, 0, none⟩ (.int .i64 0)).setCell ⟨G, 1, none⟩ (.int .i64 0)).setCell ⟨G, 2, none⟩ (.int .i64 0)).setCell ⟨G, 3, none⟩ (.int .i64 0)).setCell ⟨G, 4, none⟩ (.slice none 0 0)).setCell ⟨G, 5, none⟩ (.slice none 0 0)).setCell ⟨G, 6, none⟩ (.slice none 0 0))) := hEnd
  have HRest : Hid (lb ≤ 1048576 → ∀ y1 y3 y4 y5 y6 y7 y8 y9 y10 y11 y12 y13 y14 y15 y16 y17 y18 y19 y20 y21 y22 y23 y24 y25 y26 y27 y28 y29 y30 y31 y32 y33 y34 y35 y36 y37 y38 y39 y40 y41 y42 y43 y44 y45 y46 y47 y48 y49 y50 y51 y52 y53 y54 y55 y56 y57 y58 y59 y60 y61 y62 y63 y64 y65 y66 y67 y68 y69 y70 y71 y72 y73 y74 y75 y76 y77 y78 y79 y80 y81 y82 y83 y84 y85 y86 y87 y88 y89 y90 y91 y92 y93 y94 y95 y96 y97 y98 y99 y100 y101 y102 y103 y104 y105 y106 y107 y108 y109 y110 y111 y112 y113 y114 y115 y116 y117 y118 y119 y120 y121 y122 y123 y124 : Value, Code.wp Try.prog REST (bodyPost Try.prog Try.f14 post) ⟨#[.slice b lb cb, y1, .pointer (some ⟨G, 0, none⟩), y3, y4, y5, y6, y7, y8, y9, y10, y11, y12, y13, y14, y15, y16, y17, y18, y19, y20, y21, y22, y23, y24, y25, y26, y27, y28, y29, y30, y31, y32, y33, y34, y35, y36, y37, y38, y39, y40, y41, y42, y43, y44, y45, y46, y47, y48, y49, y50, y51, y52, y53, y54, y55, y56, y57, y58, y59, y60, y61, y62, y63, y64, y65, y66, y67, y68, y69, y70, y71, y72, y73, y74, y75, y76, y77, y78, y79, y80, y81, y82, y83, y84, y85, y86, y87, y88, y89, y90, y91, y92, y93, y94, y95, y96, y97, y98, y99, y100, y101, y102, y103, y104, y105, y106, y107, y108, y109, y110, y111, y112, y113, y114, y115, y116, y117, y118, y119, y120, y121, y122, y123, y124], []⟩ W) := hRest
  obtain ⟨⟨r0, r1, r2, r3, r4, r5, r6⟩, fz⟩ := hG.cells
  have f0 := fz 0
  have f1 := fz 1
  have f2 := fz 2
  have f3 := fz 3
  have f4 := fz 4
  have f5 := fz 5
  have f6 := fz 6
  clear hEnd hRest hG fz
  by_cases hb : 1048576 < lb
  · have hbd : (1048576 : Int) < (lb : Int) := by omega
    have HB : Hid (post (.returned (.tuple #[.agg #[.int .i64 0, .int .i64 0, .int .i64 0, .int .i64 0, .slice none 0 0, .slice none 0 0, .slice none 0 0], .int .i64 16])) (((((((W.setCell ⟨G, 0, none⟩ (.int .i64 0)).setCell ⟨G, 1, none⟩ (.int .i64 0)).setCell ⟨G, 2, none⟩ (.int .i64 0)).setCell ⟨G, 3, none⟩ (.int .i64 0)).setCell ⟨G, 4, none⟩ (.slice none 0 0)).setCell ⟨G, 5, none⟩ (.slice none 0 0)).setCell ⟨G, 6, none⟩ (.slice none 0 0))) := HEnd.out hb
    clear HEnd HRest
    go_wp2_with fail
    exact bodyPost_ret (v := .tuple #[.agg #[.int .i64 0, .int .i64 0, .int .i64 0, .int .i64 0, .slice none 0 0, .slice none 0 0, .slice none 0 0], .int .i64 16]) (by simp [results, Try.results14, go_sem, r0, r1, r2, r3, r4, r5, r6]) rfl HB.out
  · have hbd : decide ((1048576 : Int) < (lb : Int)) = false := decide_eq_false (by omega)
    clear HEnd
    go_wp2_with fail
    exact HRest.out (by omega) _ _ _ _ _ _ _ _ _ _ _ _ _ _ _ _ _ _ _ _ _ _ _ _ _ _ _ _ _ _ _ _ _ _ _ _ _ _ _ _ _ _ _ _ _ _ _ _ _ _ _ _ _ _ _ _ _ _ _ _ _ _ _ _ _ _ _ _ _ _ _ _ _ _ _ _ _ _ _ _ _ _ _ _ _ _ _ _ _ _ _ _ _ _ _ _ _ _ _ _ _ _ _ _ _ _ _ _ _ _ _ _ _ _ _ _ _ _ _ _ _ _ _

set_option maxRecDepth 100000 in
set_option maxHeartbeats 12800000 in
theorem dec_s3 {x1 x3 x4 x5 x6 x7 x8 x9 x10 x11 x12 x13 x14 x15 x16 x17 x18 x19 x20 x21 x22 x23 x24 x25 x26 x27 x28 x29 x30 x31 x32 x33 x34 x35 x36 x37 x38 x39 x40 x41 x42 x43 x44 x45 x46 x47 x48 x49 x50 x51 x52 x53 x54 x55 x56 x57 x58 x59 x60 x61 x62 x63 x64 x65 x66 x67 x68 x69 x70 x71 x72 x73 x74 x75 x76 x77 x78 x79 x80 x81 x82 x83 x84 x85 x86 x87 x88 x89 x90 x91 x92 x93 x94 x95 x96 x97 x98 x99 x100 x101 x102 x103 x104 x105 x106 x107 x108 x109 x110 x111 x112 x113 x114 x115 x116 x117 x118 x119 x120 x121 x122 x123 x124 : Value} {REST : Code} {post : Ending → World → Prop} {W : World} {G : Nat} {b : Option Addr} {lb cb : Nat} 
    (hRest : ∀ (y1 y3 y5 y6 y7 y8 y9 y10 y11 y12 y13 y14 y15 y16 y17 y18 y19 y20 y21 y22 y23 y24 y25 y26 y27 y28 y29 y30 y31 y32 y33 y34 y35 y36 y37 y38 y39 y40 y41 y42 y43 y44 y45 y46 y47 y48 y49 y50 y51 y52 y53 y54 y55 y56 y57 y58 y59 y60 y61 y62 y63 y64 y65 y66 y67 y68 y69 y70 y71 y72 y73 y74 y75 y76 y77 y78 y79 y80 y81 y82 y83 y84 y85 y86 y87 y88 y89 y90 y91 y92 y93 y94 y95 y96 y97 y98 y99 y100 y101 y102 y103 y104 y105 y106 y107 y108 y109 y110 y111 y112 y113 y114 y115 y116 y117 y118 y119 y120 y121 y122 y123 y124 : Value), Code.wp Try.prog REST (bodyPost Try.prog Try.f14 post) ⟨#[.slice b lb cb, y1, .pointer (some ⟨G, 0, none⟩), y3, .pointer (some ⟨W.heap.size, 0, none⟩), y5, y6, y7, y8, y9, y10, y11, y12, y13, y14, y15, y16, y17, y18, y19, y20, y21, y22, y23, y24, y25, y26, y27, y28, y29, y30, y31, y32, y33, y34, y35, y36, y37, y38, y39, y40, y41, y42, y43, y44, y45, y46, y47, y48, y49, y50, y51, y52, y53, y54, y55, y56, y57, y58, y59, y60, y61, y62, y63, y64, y65, y66, y67, y68, y69, y70, y71, y72, y73, y74, y75, y76, y77, y78, y79, y80, y81, y82, y83, y84, y85, y86, y87, y88, y89, y90, y91, y92, y93, y94, y95, y96, y97, y98, y99, y100, y101, y102, y103, y104, y105, y106, y107, y108, y109, y110, y111, y112, y113, y114, y115, y116, y117, y118, y119, y120, y121, y122, y123, y124], []⟩ (W.alloc (.cells #[.slice b lb cb, .int .i64 0] 63))) :
    Code.wp Try.prog (.seq ((Try.f14.body.bind (stmtAt 3)).getD .skip) REST) (bodyPost Try.prog Try.f14 post) ⟨#[.slice b lb cb, x1, .pointer (some ⟨G, 0, none⟩), x3, x4, x5, x6, x7, x8, x9, x10, x11, x12, x13, x14, x15, x16, x17, x18, x19, x20, x21, x22, x23, x24, x25, x26, x27, x28, x29, x30, x31, x32, x33, x34, x35, x36, x37, x38, x39, x40, x41, x42, x43, x44, x45, x46, x47, x48, x49, x50, x51, x52, x53, x54, x55, x56, x57, x58, x59, x60, x61, x62, x63, x64, x65, x66, x67, x68, x69, x70, x71, x72, x73, x74, x75, x76, x77, x78, x79, x80, x81, x82, x83, x84, x85, x86, x87, x88, x89, x90, x91, x92, x93, x94, x95, x96, x97, x98, x99, x100, x101, x102, x103, x104, x105, x106, x107, x108, x109, x110, x111, x112, x113, x114, x115, x116, x117, x118, x119, x120, x121, x122, x123, x124], []⟩ W := by
  conv => arg 2; arg 1; whnf
  have HRest : Hid (∀ (y1 y3 y5 y6 y7 y8 y9 y10 y11 y12 y13 y14 y15 y16 y17 y18 y19 y20 y21 y22 y23 y24 y25 y26 y27 y28 y29 y30 y31 y32 y33 y34 y35 y36 y37 y38 y39 y40 y41 y42 y43 y44 y45 y46 y47 y48 y49 y50 y51 y52 y53 y54 y55 y56 y57 y58 y59 y60 y61 y62 y63 y64 y65 y66 y67 y68 y69 y70 y71 y72 y73 y74 y75 y76 y77 y78 y79 y80 y81 y82 y83 y84 y85 y86 y87 y88 y89 y90 y91 y92 y93 y94 y95 y96 y97 y98 y99 y100 y101 y102 y103 y104 y105 y106 y107 y108 y109 y110 y111 y112 y113 y114 y115 y116 y117 y118 y119 y120 y121 y122 y123 y124 : Value), Code.wp Try.prog REST (bodyPost Try.prog Try.f14 post) ⟨#[.slice b lb cb, y1, .pointer (some ⟨G, 0, none⟩), y3, .pointer (some ⟨W.heap.size, 0, none⟩), y5, y6, y7, y8, y9, y10, y11, y12, y13, y14, y15, y16, y17, y18, y19, y20, y21, y22, y23, y24, y25, y26, y27, y28, y29, y30, y31, y32, y33, y34, y35, y36, y37, y38, y39, y40, y41, y42, y43, y44, y45, y46, y47, y48, y49, y50, y51, y52, y53, y54, y55, y56, y57, y58, y59, y60, y61, y62, y63, y64, y65, y66, y67, y68, y69, y70, y71, y72, y73, y74, y75, y76, y77, y78, y79, y80, y81, y82, y83, y84, y85, y86, y87, y88, y89, y90, y91, y92, y93, y94, y95, y96, y97, y98, y99, y100, y101, y102, y103, y104, y105, y106, y107, y108, y109, y110, y111, y112, y113, y114, y115, y116, y117, y118, y119, y120, y121, y122, y123, y124], []⟩ (W.alloc (.cells #[.slice b lb cb, .int .i64 0] 63))) := hRest
  clear hRest
  go_wp2_with fail
  exact HRest.out _ _ _ _ _ _ _ _ _ _ _ _ _ _ _ _ _ _ _ _ _ _ _ _ _ _ _ _ _ _ _ _ _ _ _ _ _ _ _ _ _ _ _ _ _ _ _ _ _ _ _ _ _ _ _ _ _ _ _ _ _ _ _ _ _ _ _ _ _ _ _ _ _ _ _ _ _ _ _ _ _ _ _ _ _ _ _ _ _ _ _ _ _ _ _ _ _ _ _ _ _ _ _ _ _ _ _ _ _ _ _ _ _ _ _ _ _ _ _ _ _ _

set_option maxRecDepth 100000 in
set_option maxHeartbeats 12800000 in
theorem dec_s4 {x1 x3 x5 x6 x7 x8 x9 x10 x11 x12 x13 x14 x15 x16 x17 x18 x19 x20 x21 x22 x23 x24 x25 x26 x27 x28 x29 x30 x31 x32 x33 x34 x35 x36 x37 x38 x39 x40 x41 x42 x43 x44 x45 x46 x47 x48 x49 x50 x51 x52 x53 x54 x55 x56 x57 x58 x59 x60 x61 x62 x63 x64 x65 x66 x67 x68 x69 x70 x71 x72 x73 x74 x75 x76 x77 x78 x79 x80 x81 x82 x83 x84 x85 x86 x87 x88 x89 x90 x91 x92 x93 x94 x95 x96 x97 x98 x99 x100 x101 x102 x103 x104 x105 x106 x107 x108 x109 x110 x111 x112 x113 x114 x115 x116 x117 x118 x119 x120 x121 x122 x123 x124 : Value} {X0 : Value} {REST : Code} {post : Ending → World → Prop} {W : World} {G g : Nat} 
    (hRest : ∀ (y1 y3 y6 y7 y8 y9 y10 y11 y12 y13 y14 y15 y16 y17 y18 y19 y20 y21 y22 y23 y24 y25 y26 y27 y28 y29 y30 y31 y32 y33 y34 y35 y36 y37 y38 y39 y40 y41 y42 y43 y44 y45 y46 y47 y48 y49 y50 y51 y52 y53 y54 y55 y56 y57 y58 y59 y60 y61 y62 y63 y64 y65 y66 y67 y68 y69 y70 y71 y72 y73 y74 y75 y76 y77 y78 y79 y80 y81 y82 y83 y84 y85 y86 y87 y88 y89 y90 y91 y92 y93 y94 y95 y96 y97 y98 y99 y100 y101 y102 y103 y104 y105 y106 y107 y108 y109 y110 y111 y112 y113 y114 y115 y116 y117 y118 y119 y120 y121 y122 y123 y124 : Value), Code.wp Try.prog REST (bodyPost Try.prog Try.f14 post) ⟨#[X0, y1, .pointer (some ⟨G, 0, none⟩), y3, .pointer (some ⟨g, 0, none⟩), .pointer (some ⟨W.heap.size, 0, none⟩), y6, y7, y8, y9, y10, y11, y12, y13, y14, y15, y16, y17, y18, y19, y20, y21, y22, y23, y24, y25, y26, y27, y28, y29, y30, y31, y32, y33, y34, y35, y36, y37, y38, y39, y40, y41, y42, y43, y44, y45, y46, y47, y48, y49, y50, y51, y52, y53, y54, y55, y56, y57, y58, y59, y60, y61, y62, y63, y64, y65, y66, y67, y68, y69, y70, y71, y72, y73, y74, y75, y76, y77, y78, y79, y80, y81, y82, y83, y84, y85, y86, y87, y88, y89, y90, y91, y92, y93, y94, y95, y96, y97, y98, y99, y100, y101, y102, y103, y104, y105, y106, y107, y108, y109, y110, y111, y112, y113, y114, y115, y116, y117, y118, y119, y120, y121, y122, y123, y124], []⟩ (W.alloc (.cells #[.int .i64 0, .int .i64 0, .int .i64 0, .int .i64 0] 64))) :
    Code.wp Try.prog (.seq ((Try.f14.body.bind (stmtAt 4)).getD .skip) REST) (bodyPost Try.prog Try.f14 post) ⟨#[X0, x1, .pointer (some ⟨G, 0, none⟩), x3, .pointer (some ⟨g, 0, none⟩), x5, x6, x7, x8, x9, x10, x11, x12, x13, x14, x15, x16, x17, x18, x19, x20, x21, x22, x23, x24, x25, x26, x27, x28, x29, x30, x31, x32, x33, x34, x35, x36, x37, x38, x39, x40, x41, x42, x43, x44, x45, x46, x47, x48, x49, x50, x51, x52, x53, x54, x55, x56, x57, x58, x59, x60, x61, x62, x63, x64, x65, x66, x67, x68, x69, x70, x71, x72, x73, x74, x75, x76, x77, x78, x79, x80, x81, x82, x83, x84, x85, x86, x87, x88, x89, x90, x91, x92, x93, x94, x95, x96, x97, x98, x99, x100, x101, x102, x103, x104, x105, x106, x107, x108, x109, x110, x111, x112, x113, x114, x115, x116, x117, x118, x119, x120, x121, x122, x123, x124], []⟩ W := by
  conv => arg 2; arg 1; whnf
  have HRest : Hid (∀ (y1 y3 y6 y7 y8 y9 y10 y11 y12 y13 y14 y15 y16 y17 y18 y19 y20 y21 y22 y23 y24 y25 y26 y27 y28 y29 y30 y31 y32 y33 y34 y35 y36 y37 y38 y39 y40 y41 y42 y43 y44 y45 y46 y47 y48 y49 y50 y51 y52 y53 y54 y55 y56 y57 y58 y59 y60 y61 y62 y63 y64 y65 y66 y67 y68 y69 y70 y71 y72 y73 y74 y75 y76 y77 y78 y79 y80 y81 y82 y83 y84 y85 y86 y87 y88 y89 y90 y91 y92 y93 y94 y95 y96 y97 y98 y99 y100 y101 y102 y103 y104 y105 y106 y107 y108 y109 y110 y111 y112 y113 y114 y115 y116 y117 y118 y119 y120 y121 y122 y123 y124 : Value), Code.wp Try.prog REST (bodyPost Try.prog Try.f14 post) ⟨#[X0, y1, .pointer (some ⟨G, 0, none⟩), y3, .pointer (some ⟨g, 0, none⟩), .pointer (some ⟨W.heap.size, 0, none⟩), y6, y7, y8, y9, y10, y11, y12, y13, y14, y15, y16, y17, y18, y19, y20, y21, y22, y23, y24, y25, y26, y27, y28, y29, y30, y31, y32, y33, y34, y35, y36, y37, y38, y39, y40, y41, y42, y43, y44, y45, y46, y47, y48, y49, y50, y51, y52, y53, y54, y55, y56, y57, y58, y59, y60, y61, y62, y63, y64, y65, y66, y67, y68, y69, y70, y71, y72, y73, y74, y75, y76, y77, y78, y79, y80, y81, y82, y83, y84, y85, y86, y87, y88, y89, y90, y91, y92, y93, y94, y95, y96, y97, y98, y99, y100, y101, y102, y103, y104, y105, y106, y107, y108, y109, y110, y111, y112, y113, y114, y115, y116, y117, y118, y119, y120, y121, y122, y123, y124], []⟩ (W.alloc (.cells #[.int .i64 0, .int .i64 0, .int .i64 0, .int .i64 0] 64))) := hRest
  clear hRest
  go_wp2_with fail
  exact HRest.out _ _ _ _ _ _ _ _ _ _ _ _ _ _ _ _ _ _ _ _ _ _ _ _ _ _ _ _ _ _ _ _ _ _ _ _ _ _ _ _ _ _ _ _ _ _ _ _ _ _ _ _ _ _ _ _ _ _ _ _ _ _ _ _ _ _ _ _ _ _ _ _ _ _ _ _ _ _ _ _ _ _ _ _ _ _ _ _ _ _ _ _ _ _ _ _ _ _ _ _ _ _ _ _ _ _ _ _ _ _ _ _ _ _ _ _ _ _ _ _ _

end Go.Proofs.Ytnbdbahfekneoaa
