/-
  The document's sets: Of, its loop, the whole. Written by mk/r14of.py.
-/
import Derived.Test.YtfgccldkbolkoaaRef14D
namespace Go.Proofs.Ytfgccldkbolkoaa
open Go.RowKit

theorem inList_snoc (l : List Int) (x i : Nat) : inList (l ++ [(x : Int)]) i = (inList l i || decide (i = x)) := by
  have e : decide ((i : Int) = (x : Int)) = decide (i = x) := by
    by_cases c : i = x
    · simp [c]
    · rw [decide_eq_false c, decide_eq_false (by omega)]
  unfold inList
  rw [← e]
  simp
theorem take_snoc14 {xs : List Int} {i : Nat} (hi : i < xs.length) : xs.take (i + 1) = xs.take i ++ [xs.getD i 0] := by
  rw [List.take_add_one]
  simp [List.getD, hi]
theorem blk_word {w : World} {g : Nat} {ws : List Int} (h : Blk w g ws) {q : Nat} (hq : q < ws.length) (hd : Digs 18446744073709551616 ws) : w.cell? ⟨g, q, none⟩ = some (.int .u64 (((ws.getD q 0).toNat : Nat) : Int)) := by
  rw [h.cell hq]
  have := hd ws[q] (List.getElem_mem hq)
  have e : ws.getD q 0 = ws[q] := by simp [List.getD, hq]
  congr 2
  rw [e]
  omega
theorem blk_thaw {w : World} {g : Nat} {ws : List Int} (h : Blk w g ws) (j : Nat) : w.frozen? ⟨g, j, none⟩ = false := by
  obtain ⟨cur, h, _⟩ := h
  exact frozen_of_row _ _ _ _ _ h
theorem IsSet.again {n : Nat} {l : List Int} {ws : List Int} (h : IsSet n (inList l) ws) {x : Nat} (hx : x < n) (ht : wbit ws x = true) : IsSet n (inList (l ++ [(x : Int)])) ws := h.congr (fun i hi => by
  rw [inList_snoc]
  by_cases e : i = x
  · subst e
    rw [← h.at hi, ht]
    rfl
  · simp [e])

set_option maxRecDepth 100000 in
set_option maxHeartbeats 12800000 in
theorem of_p6 {x0 x1 x2 x3 x4 x5 x6 x8 x9 x10 x11 x12 x13 x14 x15 x16 x17 x18 x19 x20 x21 x22 x23 x24 x25 x26 x27 x28 x29 x30 x31 x32 x33 x34 x35 x36 x37 x38 x39 x40 x41 x42 x43 x44 x45 x46 x47 x48 x49 x50 x51 x52 x53 x54 x55 x56 x57 x58 x59 x60 x61 x62 x63 x64 x65 x66 x67 x68 x69 x70 x71 x72 x73 x74 x75 x76 x77 x78 x79 x80 x81 : Value} {Q : Exit → Act → World → Prop} {W : World} {i : Nat} (hi : i < 17592186044416)
    (hN : ∀ (y28 y29 : Value), Q .normal ⟨#[x0, x1, x2, x3, x4, x5, x6, .int .i64 ((i + 1 : Nat) : Int), x8, x9, x10, x11, x12, x13, x14, x15, x16, x17, x18, x19, x20, x21, x22, x23, x24, x25, x26, x27, y28, y29, x30, x31, x32, x33, x34, x35, x36, x37, x38, x39, x40, x41, x42, x43, x44, x45, x46, x47, x48, x49, x50, x51, x52, x53, x54, x55, x56, x57, x58, x59, x60, x61, x62, x63, x64, x65, x66, x67, x68, x69, x70, x71, x72, x73, x74, x75, x76, x77, x78, x79, x80, x81], []⟩ W) :
    Code.wp Try.prog (((Try.f12.body.bind (pcLoop 0)).bind (pcAt 6)).getD .skip) Q ⟨#[x0, x1, x2, x3, x4, x5, x6, .int .i64 (i : Int), x8, x9, x10, x11, x12, x13, x14, x15, x16, x17, x18, x19, x20, x21, x22, x23, x24, x25, x26, x27, x28, x29, x30, x31, x32, x33, x34, x35, x36, x37, x38, x39, x40, x41, x42, x43, x44, x45, x46, x47, x48, x49, x50, x51, x52, x53, x54, x55, x56, x57, x58, x59, x60, x61, x62, x63, x64, x65, x66, x67, x68, x69, x70, x71, x72, x73, x74, x75, x76, x77, x78, x79, x80, x81], []⟩ W := by
  conv => arg 2; whnf
  have HN : Hid (∀ (y28 y29 : Value), Q .normal ⟨#[x0, x1, x2, x3, x4, x5, x6, .int .i64 ((i + 1 : Nat) : Int), x8, x9, x10, x11, x12, x13, x14, x15, x16, x17, x18, x19, x20, x21, x22, x23, x24, x25, x26, x27, y28, y29, x30, x31, x32, x33, x34, x35, x36, x37, x38, x39, x40, x41, x42, x43, x44, x45, x46, x47, x48, x49, x50, x51, x52, x53, x54, x55, x56, x57, x58, x59, x60, x61, x62, x63, x64, x65, x66, x67, x68, x69, x70, x71, x72, x73, x74, x75, x76, x77, x78, x79, x80, x81], []⟩ W) := hN
  clear hN
  have e : ((i + 1 : Nat) : Int) = (i : Int) + 1 := by omega
  rw [e] at HN
  go_wp2_with fail
  exact HN.out  _ _ 

set_option maxRecDepth 100000 in
set_option maxHeartbeats 12800000 in
theorem of_p17 {x0 x1 x2 x3 x5 x7 x8 x9 x10 x11 x12 x13 x14 x15 x16 x17 x18 x19 x20 x21 x22 x23 x24 x25 x26 x27 x28 x29 x30 x31 x32 x33 x34 x35 x36 x37 x38 x39 x40 x41 x42 x43 x44 x45 x46 x47 x48 x49 x50 x51 x52 x53 x54 x55 x56 x57 x58 x59 x60 x61 x62 x63 x64 x65 x66 x67 x68 x69 x70 x71 x72 x73 x74 x75 x76 x77 x78 x79 x80 x81 : Value} {Q : Exit → Act → World → Prop} {W : World} {R s g n q : Nat} (r0 : W.cell? ⟨R, 0, none⟩ = some (.int .i64 0)) (r1 : W.cell? ⟨R, 1, none⟩ = some (.slice none 0 0)) (f0 : W.frozen? ⟨R, 0, none⟩ = false) (f1 : W.frozen? ⟨R, 1, none⟩ = false) (s0 : W.cell? ⟨s, 0, none⟩ = some (.int .i64 (n : Int))) (s1 : W.cell? ⟨s, 1, none⟩ = some (.slice (some ⟨g, 0, none⟩) q q))
    (hR : ∀ (y81 : Value), Q .ret ⟨#[x0, x1, x2, x3, .pointer (some ⟨R, 0, none⟩), .int .i64 0, .pointer (some ⟨s, 0, none⟩), x7, x8, x9, x10, x11, x12, x13, x14, x15, x16, x17, x18, x19, x20, x21, x22, x23, x24, x25, x26, x27, x28, x29, x30, x31, x32, x33, x34, x35, x36, x37, x38, x39, x40, x41, x42, x43, x44, x45, x46, x47, x48, x49, x50, x51, x52, x53, x54, x55, x56, x57, x58, x59, x60, x61, x62, x63, x64, x65, x66, x67, x68, x69, x70, x71, x72, x73, x74, x75, x76, x77, x78, x79, x80, y81], []⟩ ((W.setCell ⟨R, 0, none⟩ (.int .i64 (n : Int))).setCell ⟨R, 1, none⟩ (.slice (some ⟨g, 0, none⟩) q q))) :
    Code.wp Try.prog ((Try.f12.body.bind (pcFrom 17)).getD .skip) Q ⟨#[x0, x1, x2, x3, .pointer (some ⟨R, 0, none⟩), x5, .pointer (some ⟨s, 0, none⟩), x7, x8, x9, x10, x11, x12, x13, x14, x15, x16, x17, x18, x19, x20, x21, x22, x23, x24, x25, x26, x27, x28, x29, x30, x31, x32, x33, x34, x35, x36, x37, x38, x39, x40, x41, x42, x43, x44, x45, x46, x47, x48, x49, x50, x51, x52, x53, x54, x55, x56, x57, x58, x59, x60, x61, x62, x63, x64, x65, x66, x67, x68, x69, x70, x71, x72, x73, x74, x75, x76, x77, x78, x79, x80, x81], []⟩ W := by
  conv => arg 2; whnf
  have HR : Hid (∀ (y81 : Value), Q .ret ⟨#[x0, x1, x2, x3, .pointer (some ⟨R, 0, none⟩), .int .i64 0, .pointer (some ⟨s, 0, none⟩), x7, x8, x9, x10, x11, x12, x13, x14, x15, x16, x17, x18, x19, x20, x21, x22, x23, x24, x25, x26, x27, x28, x29, x30, x31, x32, x33, x34, x35, x36, x37, x38, x39, x40, x41, x42, x43, x44, x45, x46, x47, x48, x49, x50, x51, x52, x53, x54, x55, x56, x57, x58, x59, x60, x61, x62, x63, x64, x65, x66, x67, x68, x69, x70, x71, x72, x73, x74, x75, x76, x77, x78, x79, x80, y81], []⟩ ((W.setCell ⟨R, 0, none⟩ (.int .i64 (n : Int))).setCell ⟨R, 1, none⟩ (.slice (some ⟨g, 0, none⟩) q q))) := hR
  clear hR
  go_wp2_with fail
  exact HR.out  _ 

set_option maxRecDepth 100000 in
set_option maxHeartbeats 12800000 in
theorem of_l1 {x2 x3 x5 x7 x8 x9 x10 x11 x12 x13 x14 x15 x16 x17 x18 x19 x20 x21 x22 x23 x24 x25 x26 x27 x28 x29 x30 x31 x32 x33 x34 x35 x36 x37 x38 x39 x40 x41 x42 x43 x44 x45 x46 x47 x48 x49 x50 x51 x52 x53 x54 x55 x56 x57 x58 x59 x60 x61 x62 x63 x64 x65 x66 x67 x68 x69 x70 x71 x72 x73 x74 x75 x76 x77 x78 x79 x80 x81 : Value} {Q : Exit → Act → World → Prop} {w W : World} {R s g n q len cap : Nat} {a : Option Addr} {xs ws0 : List Int} (hL : Lsts w a len cap xs) (hlen : len ≤ 17592186044416) (hn : n ≤ 65536) (h : OfAt w W R s g n q ws0) (hs : IsSet n (inList []) ws0)
    (hN : ∀ (ws : List Int) (wx : World) (y5 y7 y8 y9 y10 y24 y25 y26 y27 y28 y29 y30 y31 y32 y33 y34 y35 y36 y37 y38 y39 y40 y41 y42 y43 y44 y45 y46 y47 y48 y49 y50 y51 y52 y53 y54 y55 y56 y57 y58 y59 y60 y61 y62 y63 y64 y65 y66 y67 y68 y69 y70 y71 y72 y73 y74 y75 y76 y77 y78 y79 y80 : Value), OfAt w wx R s g n q ws → IsSet n (inList xs) ws → (∀ x, x ∈ xs → 0 ≤ x ∧ x < (n : Int)) → Q .normal ⟨#[.int .i64 (n : Int), .slice a len cap, x2, x3, .pointer (some ⟨R, 0, none⟩), y5, .pointer (some ⟨s, 0, none⟩), y7, y8, y9, y10, x11, x12, x13, x14, x15, x16, x17, x18, x19, x20, x21, x22, x23, y24, y25, y26, y27, y28, y29, y30, y31, y32, y33, y34, y35, y36, y37, y38, y39, y40, y41, y42, y43, y44, y45, y46, y47, y48, y49, y50, y51, y52, y53, y54, y55, y56, y57, y58, y59, y60, y61, y62, y63, y64, y65, y66, y67, y68, y69, y70, y71, y72, y73, y74, y75, y76, y77, y78, y79, y80, x81], []⟩ wx)
    (hR : ∀ (wx : World) (y7 y8 y9 y10 y24 y25 y26 y27 y28 y29 y30 y31 y32 y33 y34 y35 y36 y37 y38 y39 y40 y41 y42 y43 y44 y45 y46 y47 y48 y49 y50 y51 y52 y53 y54 y55 y56 y57 y58 y59 y60 y61 y62 y63 y64 y65 y66 y67 y68 y69 y70 y71 y72 y73 y74 y75 y76 y77 y78 y79 y80 : Value), (∃ x, x ∈ xs ∧ (x < 0 ∨ (n : Int) ≤ x)) → Below w.heap.size w wx → ((wx.setCell ⟨R, 0, none⟩ (.int .i64 0)).setCell ⟨R, 1, none⟩ (.slice none 0 0)).cell? ⟨R, 0, none⟩ = some (.int .i64 0) → ((wx.setCell ⟨R, 0, none⟩ (.int .i64 0)).setCell ⟨R, 1, none⟩ (.slice none 0 0)).cell? ⟨R, 1, none⟩ = some (.slice none 0 0) → Q .ret ⟨#[.int .i64 (n : Int), .slice a len cap, x2, x3, .pointer (some ⟨R, 0, none⟩), .int .i64 1, .pointer (some ⟨s, 0, none⟩), y7, y8, y9, y10, x11, x12, x13, x14, x15, x16, x17, x18, x19, x20, x21, x22, x23, y24, y25, y26, y27, y28, y29, y30, y31, y32, y33, y34, y35, y36, y37, y38, y39, y40, y41, y42, y43, y44, y45, y46, y47, y48, y49, y50, y51, y52, y53, y54, y55, y56, y57, y58, y59, y60, y61, y62, y63, y64, y65, y66, y67, y68, y69, y70, y71, y72, y73, y74, y75, y76, y77, y78, y79, y80, x81], []⟩ ((wx.setCell ⟨R, 0, none⟩ (.int .i64 0)).setCell ⟨R, 1, none⟩ (.slice none 0 0))) :
    Code.wp Try.prog ((Try.f12.body.bind (pcAt 4)).getD .skip) Q ⟨#[.int .i64 (n : Int), .slice a len cap, x2, x3, .pointer (some ⟨R, 0, none⟩), x5, .pointer (some ⟨s, 0, none⟩), x7, x8, x9, x10, x11, x12, x13, x14, x15, x16, x17, x18, x19, x20, x21, x22, x23, x24, x25, x26, x27, x28, x29, x30, x31, x32, x33, x34, x35, x36, x37, x38, x39, x40, x41, x42, x43, x44, x45, x46, x47, x48, x49, x50, x51, x52, x53, x54, x55, x56, x57, x58, x59, x60, x61, x62, x63, x64, x65, x66, x67, x68, x69, x70, x71, x72, x73, x74, x75, x76, x77, x78, x79, x80, x81], []⟩ W := by
  conv => arg 2; whnf
  have HN : Hid (∀ (ws : List Int) (wx : World) (y5 y7 y8 y9 y10 y24 y25 y26 y27 y28 y29 y30 y31 y32 y33 y34 y35 y36 y37 y38 y39 y40 y41 y42 y43 y44 y45 y46 y47 y48 y49 y50 y51 y52 y53 y54 y55 y56 y57 y58 y59 y60 y61 y62 y63 y64 y65 y66 y67 y68 y69 y70 y71 y72 y73 y74 y75 y76 y77 y78 y79 y80 : Value), OfAt w wx R s g n q ws → IsSet n (inList xs) ws → (∀ x, x ∈ xs → 0 ≤ x ∧ x < (n : Int)) → Q .normal ⟨#[.int .i64 (n : Int), .slice a len cap, x2, x3, .pointer (some ⟨R, 0, none⟩), y5, .pointer (some ⟨s, 0, none⟩), y7, y8, y9, y10, x11, x12, x13, x14, x15, x16, x17, x18, x19, x20, x21, x22, x23, y24, y25, y26, y27, y28, y29, y30, y31, y32, y33, y34, y35, y36, y37, y38, y39, y40, y41, y42, y43, y44, y45, y46, y47, y48, y49, y50, y51, y52, y53, y54, y55, y56, y57, y58, y59, y60, y61, y62, y63, y64, y65, y66, y67, y68, y69, y70, y71, y72, y73, y74, y75, y76, y77, y78, y79, y80, x81], []⟩ wx) := hN
  have HR : Hid (∀ (wx : World) (y7 y8 y9 y10 y24 y25 y26 y27 y28 y29 y30 y31 y32 y33 y34 y35 y36 y37 y38 y39 y40 y41 y42 y43 y44 y45 y46 y47 y48 y49 y50 y51 y52 y53 y54 y55 y56 y57 y58 y59 y60 y61 y62 y63 y64 y65 y66 y67 y68 y69 y70 y71 y72 y73 y74 y75 y76 y77 y78 y79 y80 : Value), (∃ x, x ∈ xs ∧ (x < 0 ∨ (n : Int) ≤ x)) → Below w.heap.size w wx → ((wx.setCell ⟨R, 0, none⟩ (.int .i64 0)).setCell ⟨R, 1, none⟩ (.slice none 0 0)).cell? ⟨R, 0, none⟩ = some (.int .i64 0) → ((wx.setCell ⟨R, 0, none⟩ (.int .i64 0)).setCell ⟨R, 1, none⟩ (.slice none 0 0)).cell? ⟨R, 1, none⟩ = some (.slice none 0 0) → Q .ret ⟨#[.int .i64 (n : Int), .slice a len cap, x2, x3, .pointer (some ⟨R, 0, none⟩), .int .i64 1, .pointer (some ⟨s, 0, none⟩), y7, y8, y9, y10, x11, x12, x13, x14, x15, x16, x17, x18, x19, x20, x21, x22, x23, y24, y25, y26, y27, y28, y29, y30, y31, y32, y33, y34, y35, y36, y37, y38, y39, y40, y41, y42, y43, y44, y45, y46, y47, y48, y49, y50, y51, y52, y53, y54, y55, y56, y57, y58, y59, y60, y61, y62, y63, y64, y65, y66, y67, y68, y69, y70, y71, y72, y73, y74, y75, y76, y77, y78, y79, y80, x81], []⟩ ((wx.setCell ⟨R, 0, none⟩ (.int .i64 0)).setCell ⟨R, 1, none⟩ (.slice none 0 0))) := hR
  clear hN hR
  have hxl := hL.hlen
  refine pcSeq (fun Q1 n1 r1 _ => ?_)
  go_wp2_with fail
  refine n1 _ _ (pcBlock (fun Q2 n2 e2 r2 => ?_))
  go_loopw [7] (fun v7 wr => ∃ (i : Nat) (ws : List Int), v7 = .int .i64 (i : Int) ∧ i ≤ len ∧ OfAt w wr R s g n q ws ∧ IsSet n (inList (xs.take i)) ws ∧ ∀ x, x ∈ xs.take i → 0 ≤ x ∧ x < (n : Int)) (fun v7 _ => len - (intOf v7).toNat)
  case atStart => exact ⟨0, ws0, rfl, Nat.zero_le _, h, hs, fun x hx => by cases hx⟩
  case round =>
    clear h hs
    obtain ⟨i, ws, rfl, hi, h, hs, hall⟩ := hrel
    have hql : q = (n + 63) / 64 := by rw [← h.len]; exact hs.len
    refine pcSeq (fun Q3 n3 r3 e3 => of_t5 hi ?_ ?_)
    · intros
      rename_i hlt
      refine n3 _ _ (pcSeq (fun Q4 n4 r4 e4 => pcBlock (fun Q5 n5 e5 r5 => ?_)))
      obtain ⟨⟨c0, c1, c2, c3⟩, c4, c5⟩ := h.cells
      obtain ⟨b, off, rfl, hc⟩ := (hL.below h.below).cells (by omega)
      have cx := hc i hlt
      have hmem : xs.getD i 0 ∈ xs := by rw [show xs.getD i 0 = xs[i]'(by omega) by simp [List.getD, hxl, hlt]]; exact List.getElem_mem _
      have htk := take_snoc14 (xs := xs) (i := i) (by omega)
      refine pcSeq (fun Q6 n6 r6 e6 => of_p7 hlt cx c0 c1 c2 c3 ?_ ?_)
      · intros
        rename_i hx0 hxn
        obtain ⟨x, hx⟩ : ∃ x : Nat, xs.getD i 0 = (x : Int) := ⟨(xs.getD i 0).toNat, by omega⟩
        rw [hx] at cx hx0 hxn htk
        have hxn2 : x < n := by omega
        have hN := h.b.nums hs.dig h.len (by omega)
        have hall2 : ∀ y, y ∈ xs.take (i + 1) → 0 ≤ y ∧ y < (n : Int) := fun y hy => by
          rw [htk] at hy
          rcases List.mem_append.1 hy with r | r
          · exact hall y r
          · simp at r
            omega
        refine n6 _ _ (pcSeq (fun Q7 n7 r7 e7 => of_p9 hlt cx c4 c5 hN (by omega) (by omega) ?_))
        intro w1
        intros
        rename_i hb1
        have h1 := h.grow hb1
        refine n7 _ _ (pcSeq (fun Q8 n8 r8 e8 => of_p10 ?_ ?_))
        · intros
          rename_i hf
          obtain ⟨hlt64, hmore⟩ := hs.more hxn2 hf
          obtain ⟨-, d4, d5⟩ := h1.cells
          obtain ⟨b', off', e', hc'⟩ := (hL.below h1.below).cells (by omega)
          cases e'
          have cx1 := hc' i hlt
          rw [hx] at cx1
          refine n8 _ _ (pcSeq (fun Q9 n9 r9 e9 => of_p11 ?_))
          refine n9 _ _ (pcSeq (fun Q10 n10 r10 e10 => of_l2 hlt cx1 ?_))
          intros
          refine n10 _ _ (of_p16 hlt cx1 d5 (blk_word h1.b (by rw [h1.len]; omega) hs.dig) (blk_thaw h1.b _) (by omega) (by omega) hlt64 ?_)
          intros
          have h2 := (h1.set (x / 64) (((ws.getD (x / 64) 0).toNat + 2 ^ (x % 64) : Nat) : Int)).grow (bdr12 (Below.refl _ _))
          refine n5 _ _ (n4 _ _ (of_p6 (by omega) ?_))
          intros
          dsimp only [Exit.then]
          go_roundw
          case rel => exact ⟨i + 1, _, rfl, by omega, h2, by rw [htk]; exact hmore.congr (fun j _ => (inList_snoc _ _ _).symm), hall2⟩
          case measure => simp [intOf]; omega
        · intros
          rename_i ht
          refine e8 _ _ _ (e5 _ _ (n4 _ _ (of_p6 (by omega) ?_)))
          intros
          dsimp only [Exit.then]
          go_roundw
          case rel => exact ⟨i + 1, ws, rfl, by omega, h1, by rw [htk]; exact hs.again hxn2 ht, hall2⟩
          case measure => simp [intOf]; omega
      · intros
        rename_i hbad
        have k1 := heap_setCell_same wr R 0 _ _ (.int .i64 0) h.r
        have k2 := heap_setCell_same _ R 1 _ _ (.slice none 0 0) k1
        have y0 : ((wr.setCell ⟨R, 0, none⟩ (.int .i64 0)).setCell ⟨R, 1, none⟩ (.slice none 0 0)).cell? ⟨R, 0, none⟩ = some (.int .i64 0) := by rw [cell_of_row _ _ _ _ _ _ k2]; rfl
        have y1 : ((wr.setCell ⟨R, 0, none⟩ (.int .i64 0)).setCell ⟨R, 1, none⟩ (.slice none 0 0)).cell? ⟨R, 1, none⟩ = some (.slice none 0 0) := by rw [cell_of_row _ _ _ _ _ _ k2]; rfl
        have hex : ∃ x, x ∈ xs ∧ (x < 0 ∨ (n : Int) ≤ x) := ⟨_, hmem, hbad⟩
        exact r6 _ _ (r5 _ _ (r4 _ _ (r2 _ _ (HR.out _ _ _ _ _ _ _ _ _ _ _ _ _ _ _ _ _ _ _ _ _ _ _ _ _ _ _ _ _ _ _ _ _ _ _ _ _ _ _ _ _ _ _ _ _ _ _ _ _ _ _ _ _ _ _ _ _ _ _ _ _ _ hex h.below y0 y1))))
    · intros
      rename_i he
      subst he
      have et : xs.take i = xs := List.take_of_length_le (by omega)
      rw [et] at hs hall
      exact e3 _ _ _ (e2 _ _ (HN.out ws _ _ _ _ _ _ _ _ _ _ _ _ _ _ _ _ _ _ _ _ _ _ _ _ _ _ _ _ _ _ _ _ _ _ _ _ _ _ _ _ _ _ _ _ _ _ _ _ _ _ _ _ _ _ _ _ _ _ _ _ _ _ _ h hs hall))

set_option maxRecDepth 100000 in
theorem of_bad {x0 x1 x2 x3 x6 x7 x8 x9 x10 x11 x12 x13 x14 x15 x16 x17 x18 x19 x20 x21 x22 x23 x24 x25 x26 x27 x28 x29 x30 x31 x32 x33 x34 x35 x36 x37 x38 x39 x40 x41 x42 x43 x44 x45 x46 x47 x48 x49 x50 x51 x52 x53 x54 x55 x56 x57 x58 x59 x60 x61 x62 x63 x64 x65 x66 x67 x68 x69 x70 x71 x72 x73 x74 x75 x76 x77 x78 x79 x80 x81 : Value}  {R : Nat} {post : Ending → World → Prop} {W : World} (r0 : W.cell? ⟨R, 0, none⟩ = some (.int .i64 0)) (r1 : W.cell? ⟨R, 1, none⟩ = some (.slice none 0 0)) (h : post (.returned (.tuple #[.agg #[.int .i64 0, .slice none 0 0], .int .i64 1])) W) : bodyPost Try.prog Try.f12 post .ret ⟨#[x0, x1, x2, x3, .pointer (some ⟨R, 0, none⟩), .int .i64 1, x6, x7, x8, x9, x10, x11, x12, x13, x14, x15, x16, x17, x18, x19, x20, x21, x22, x23, x24, x25, x26, x27, x28, x29, x30, x31, x32, x33, x34, x35, x36, x37, x38, x39, x40, x41, x42, x43, x44, x45, x46, x47, x48, x49, x50, x51, x52, x53, x54, x55, x56, x57, x58, x59, x60, x61, x62, x63, x64, x65, x66, x67, x68, x69, x70, x71, x72, x73, x74, x75, x76, x77, x78, x79, x80, x81], []⟩ W :=
  bodyPost_ret (v := .tuple #[.agg #[.int .i64 0, .slice none 0 0], .int .i64 1]) (by simp [results, Try.results12, go_sem, r0, r1]) rfl h

set_option maxRecDepth 100000 in
theorem of_ok {x0 x1 x2 x3 x6 x7 x8 x9 x10 x11 x12 x13 x14 x15 x16 x17 x18 x19 x20 x21 x22 x23 x24 x25 x26 x27 x28 x29 x30 x31 x32 x33 x34 x35 x36 x37 x38 x39 x40 x41 x42 x43 x44 x45 x46 x47 x48 x49 x50 x51 x52 x53 x54 x55 x56 x57 x58 x59 x60 x61 x62 x63 x64 x65 x66 x67 x68 x69 x70 x71 x72 x73 x74 x75 x76 x77 x78 x79 x80 x81 : Value} {n : Int} {a : Option Addr} {l c : Nat} {R : Nat} {post : Ending → World → Prop} {W : World} (r0 : W.cell? ⟨R, 0, none⟩ = some (.int .i64 n)) (r1 : W.cell? ⟨R, 1, none⟩ = some (.slice a l c)) (h : post (.returned (.tuple #[.agg #[.int .i64 n, .slice a l c], .int .i64 0])) W) : bodyPost Try.prog Try.f12 post .ret ⟨#[x0, x1, x2, x3, .pointer (some ⟨R, 0, none⟩), .int .i64 0, x6, x7, x8, x9, x10, x11, x12, x13, x14, x15, x16, x17, x18, x19, x20, x21, x22, x23, x24, x25, x26, x27, x28, x29, x30, x31, x32, x33, x34, x35, x36, x37, x38, x39, x40, x41, x42, x43, x44, x45, x46, x47, x48, x49, x50, x51, x52, x53, x54, x55, x56, x57, x58, x59, x60, x61, x62, x63, x64, x65, x66, x67, x68, x69, x70, x71, x72, x73, x74, x75, x76, x77, x78, x79, x80, x81], []⟩ W :=
  bodyPost_ret (v := .tuple #[.agg #[.int .i64 n, .slice a l c], .int .i64 0]) (by simp [results, Try.results12, go_sem, r0, r1]) rfl h

set_option maxRecDepth 100000 in
set_option maxHeartbeats 12800000 in
theorem r14of_any (n : Int) (a : Option Addr) (len cap : Nat) (xs : List Int) (w : World) (hL : Lsts w a len cap xs) (hlen : len ≤ 17592186044416) : Calls Try.prog 12 #[.int .i64 n, .slice a len cap] w fun e w' => OfT14 n xs w e w' := by
  go_enter Try.func12, Try.ntmps12
  refine pcSeq (fun Q0 n0 r0 _ => of_p0 ?_)
  have hb0 := balloc w (.cells #[.int .i64 0, .slice none 0 0] 25)
  have hR := heap_alloc_new w (.cells #[.int .i64 0, .slice none 0 0] 25)
  have y0 : (w.alloc (.cells #[.int .i64 0, .slice none 0 0] 25)).cell? ⟨w.heap.size, 0, none⟩ = some (.int .i64 0) := by simp
  have y1 : (w.alloc (.cells #[.int .i64 0, .slice none 0 0] 25)).cell? ⟨w.heap.size, 1, none⟩ = some (.slice none 0 0) := by simp
  have f0 : (w.alloc (.cells #[.int .i64 0, .slice none 0 0] 25)).frozen? ⟨w.heap.size, 0, none⟩ = false := frozen_of_row _ _ _ _ _ hR
  have f1 : (w.alloc (.cells #[.int .i64 0, .slice none 0 0] 25)).frozen? ⟨w.heap.size, 1, none⟩ = false := frozen_of_row _ _ _ _ _ hR
  refine n0 _ _ (pcSeq (fun Q1 n1 r1 _ => of_p1 y0 y1 f0 f1 ?_ ?_))
  · intros
    rename_i hn0 hn1
    obtain ⟨m, rfl⟩ : ∃ m : Nat, n = (m : Int) := ⟨n.toNat, by omega⟩
    refine n1 _ _ (pcSeq (fun Q2 n2 r2 _ => of_p3 (by omega) ?_))
    intro w1
    intros
    rename_i k1 k2 k3
    have hsz0 : (w.alloc (.cells #[.int .i64 0, .slice none 0 0] 25)).heap.size = w.heap.size + 1 := by simp
    have hb2 := balloc w1 (.cells #[.int .i64 (m : Int), .slice (some ⟨(w.alloc (.cells #[.int .i64 0, .slice none 0 0] 25)).heap.size, 0, none⟩) ((m + 63) / 64) ((m + 63) / 64)] 25)
    have hO : OfAt w (w1.alloc (.cells #[.int .i64 (m : Int), .slice (some ⟨(w.alloc (.cells #[.int .i64 0, .slice none 0 0] 25)).heap.size, 0, none⟩) ((m + 63) / 64) ((m + 63) / 64)] 25)) w.heap.size w1.heap.size (w.alloc (.cells #[.int .i64 0, .slice none 0 0] 25)).heap.size m ((m + 63) / 64) (noughts ((m + 63) / 64)) := by
      refine ⟨bthen (bthen hb0 k2) hb2, ?_, heap_alloc_new _ _, ?_, by simp [noughts], ⟨Nat.le_refl _, by omega, by omega⟩, ⟨by omega, by omega, by omega⟩⟩
      · rw [hb2.block _ (by omega), k2.block _ (by omega)]
        exact hR
      · have hg := k1.lt14
        obtain ⟨cur, q1, q2⟩ := k1
        exact ⟨cur, (hb2.block _ hg).trans q1, q2⟩
    have hset : IsSet m (inList []) (noughts ((m + 63) / 64)) := (IsSet.empty m).congr (fun i _ => by unfold inList; simp)
    refine n2 _ _ (pcSeq (fun Q3 n3 r3 _ => of_l1 hL hlen (by omega) hO hset ?_ ?_))
    · intro ws w3
      intros
      rename_i hA hs hall
      obtain ⟨⟨c0, c1, c2, c3⟩, c4, c5⟩ := hA.cells
      refine n3 _ _ (of_p17 c0 c1 c2 c3 c4 c5 ?_)
      intros
      have q1 := heap_setCell_same w3 w.heap.size 0 _ _ (.int .i64 (m : Int)) hA.r
      have q2 := heap_setCell_same _ w.heap.size 1 _ _ (.slice (some ⟨(w.alloc (.cells #[.int .i64 0, .slice none 0 0] 25)).heap.size, 0, none⟩) ((m + 63) / 64) ((m + 63) / 64)) q1
      have hgr := World.grownBy.trans (grown_set w3 w.heap.size 0 (.int .i64 (m : Int))) (grown_set _ w.heap.size 1 (.slice (some ⟨(w.alloc (.cells #[.int .i64 0, .slice none 0 0] 25)).heap.size, 0, none⟩) ((m + 63) / 64) ((m + 63) / 64)))
      have hbk : Blk ((w3.setCell ⟨w.heap.size, 0, none⟩ (.int .i64 (m : Int))).setCell ⟨w.heap.size, 1, none⟩ (.slice (some ⟨(w.alloc (.cells #[.int .i64 0, .slice none 0 0] 25)).heap.size, 0, none⟩) ((m + 63) / 64) ((m + 63) / 64))) (w.alloc (.cells #[.int .i64 0, .slice none 0 0] 25)).heap.size ws := by
        have hg := hA.b.lt14
        obtain ⟨cur, z1, z2⟩ := hA.b
        exact ⟨cur, (hgr.block _ hg (fun e => hA.ne.1 (Option.some.inj e))).trans z1, z2⟩
      exact of_ok (by rw [cell_of_row _ _ _ _ _ _ q2]; rfl) (by rw [cell_of_row _ _ _ _ _ _ q2]; rfl) ⟨(m : Int), _, _, _, ws, 0, rfl, hbk.nums hs.dig hA.len (by omega), .inr ⟨⟨by omega, by omega, hall⟩, rfl, hs, rfl⟩, put2_below hA.below (Nat.le_refl _) _ _⟩
    · intro w3
      intros
      rename_i hex hB z0 z1
      refine r3 _ _ (of_bad z0 z1 ⟨0, none, 0, 0, [], 1, rfl, ?_, .inl ⟨.inr (.inr hex), rfl, rfl, rfl⟩, put2_below hB (Nat.le_refl _) _ _⟩)
      exact ⟨rfl, Nat.le_refl _, Nat.zero_le _, fun h => absurd h (Nat.lt_irrefl _), fun x hx => by cases hx⟩
  · intros
    rename_i hbad
    have k1 := heap_setCell_same _ w.heap.size 0 _ _ (.int .i64 0) hR
    have k2 := heap_setCell_same _ w.heap.size 1 _ _ (.slice none 0 0) k1
    refine r1 _ _ (of_bad (by rw [cell_of_row _ _ _ _ _ _ k2]; rfl) (by rw [cell_of_row _ _ _ _ _ _ k2]; rfl) ⟨0, none, 0, 0, [], 1, rfl, ?_, .inl ⟨?_, rfl, rfl, rfl⟩, put2_below hb0 (Nat.le_refl _) _ _⟩)
    · exact ⟨rfl, Nat.le_refl _, Nat.zero_le _, fun h => absurd h (Nat.lt_irrefl _), fun x hx => by cases hx⟩
    · rcases hbad with e | e
      · exact .inl e
      · exact .inr (.inl e)
end Go.Proofs.Ytfgccldkbolkoaa
