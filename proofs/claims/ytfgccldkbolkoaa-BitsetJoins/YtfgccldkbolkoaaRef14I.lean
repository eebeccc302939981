/-
  The document's sets: both. Written by mk/r14both.py.
-/
import Derived.Test.YtfgccldkbolkoaaRef14H
namespace Go.Proofs.Ytfgccldkbolkoaa
open Go.RowKit

/-- What a call that puts two sets together makes. -/
def JoinT14 (op : Bool → Bool → Bool) (M : Int) (ws : List Int) (K : Int) (vs : List Int) (w : World) (e : Ending) (w' : World) : Prop := ∃ N a l c us err, e = .returned (.tuple #[.agg #[.int .i64 N, .slice a l c], .int .i64 err]) ∧ Nums w' a l c us ∧ ResJoin op M ws K vs N us err ∧ Below w.heap.size w w'
theorem inList_nums (n : Nat) (f : Nat → Bool) (i : Nat) : inList (ints (numsOfS n f)) i = (decide (i < n) && f i) := by
  unfold inList
  rw [Bool.eq_iff_iff]
  simp only [decide_eq_true_eq, Bool.and_eq_true]
  constructor
  · intro h
    obtain ⟨j, hj, e⟩ := List.mem_map.1 h
    have : j = i := by omega
    subst this
    exact (numsOfS_mem _ _ _).1 hj
  · intro h
    exact List.mem_map.2 ⟨i, (numsOfS_mem _ _ _).2 h, rfl⟩
theorem ResOf.join {op : Bool → Bool → Bool} {m : Nat} {ws vs : List Int} (h1 : RightS (m : Int) ws) (h2 : RightS (m : Int) vs) {N : Int} {us : List Int} {err : Int} (h : ResOf (m : Int) (ints (numsOfS m (fun i => op (wbit ws i) (wbit vs i)))) N us err) : ResJoin op m ws m vs N us err := by
  rcases h with ⟨h0, -, -, -⟩ | ⟨-, k1, k2, k3⟩
  · have := h1.hi
    rcases h0 with e | e | ⟨x, e1, e2⟩
    · omega
    · omega
    · obtain ⟨j, hj, rfl⟩ := List.mem_map.1 e1
      have := ((numsOfS_mem _ _ _).1 hj).1
      omega
  · refine .inr ⟨⟨h1, h2, rfl⟩, k1, k2.congr (fun i hi => ?_), k3⟩
    rw [inList_nums]
    have : i < m := hi
    simp [this]

set_option maxRecDepth 100000 in
set_option maxHeartbeats 12800000 in
theorem bo_p13 {x0 x1 x2 x3 x4 x6 x7 x8 x9 x11 x12 x13 x15 x16 x17 x18 x19 x20 x21 x22 x23 x24 x25 x26 x27 x28 x29 x30 x31 x32 x33 x34 x35 x36 x37 x38 x39 x40 x41 x42 x43 x44 x45 x46 x47 x48 x49 x50 x51 x52 x53 x54 x55 x56 x57 x58 x59 x60 x61 x62 x63 x64 x65 x66 x67 x68 x69 x70 x71 x72 x73 x74 x75 x76 x77 x78 x79 x80 x81 x82 x83 x84 : Value} {Q : Exit → Act → World → Prop} {W : World} {A R k cp : Nat} {n : Int} {p : Option Addr} {xs : List Int} (a0 : W.cell? ⟨A, 0, none⟩ = some (.int .i64 n)) (hR : W.heap[R]? = some (.cells #[.int .i64 0, .slice none 0 0] 25 (0, 0))) (hL : Lsts W p k cp xs) (hk : k ≤ 17592186044416)
    (hR : ∀ (N : Int) (a' : Option Addr) (l' c' : Nat) (ws : List Int) (err : Int) (wx : World) (y79 y80 y81 y82 y83 y84 : Value), Nums wx a' l' c' ws → ResOf n xs N ws err → Below W.heap.size W wx → Q .ret ⟨#[x0, x1, x2, x3, x4, .pointer (some ⟨A, 0, none⟩), x6, x7, x8, x9, .pointer (some ⟨R, 0, none⟩), .int .i64 err, x12, x13, .slice p k cp, x15, x16, x17, x18, x19, x20, x21, x22, x23, x24, x25, x26, x27, x28, x29, x30, x31, x32, x33, x34, x35, x36, x37, x38, x39, x40, x41, x42, x43, x44, x45, x46, x47, x48, x49, x50, x51, x52, x53, x54, x55, x56, x57, x58, x59, x60, x61, x62, x63, x64, x65, x66, x67, x68, x69, x70, x71, x72, x73, x74, x75, x76, x77, x78, y79, y80, y81, y82, y83, y84], []⟩ ((wx.setCell ⟨R, 0, none⟩ (.int .i64 N)).setCell ⟨R, 1, none⟩ (.slice a' l' c'))) :
    Code.wp Try.prog ((Try.f27.body.bind (pcFrom 13)).getD .skip) Q ⟨#[x0, x1, x2, x3, x4, .pointer (some ⟨A, 0, none⟩), x6, x7, x8, x9, .pointer (some ⟨R, 0, none⟩), x11, x12, x13, .slice p k cp, x15, x16, x17, x18, x19, x20, x21, x22, x23, x24, x25, x26, x27, x28, x29, x30, x31, x32, x33, x34, x35, x36, x37, x38, x39, x40, x41, x42, x43, x44, x45, x46, x47, x48, x49, x50, x51, x52, x53, x54, x55, x56, x57, x58, x59, x60, x61, x62, x63, x64, x65, x66, x67, x68, x69, x70, x71, x72, x73, x74, x75, x76, x77, x78, x79, x80, x81, x82, x83, x84], []⟩ W := by
  conv => arg 2; whnf
  have HR : Hid (∀ (N : Int) (a' : Option Addr) (l' c' : Nat) (ws : List Int) (err : Int) (wx : World) (y79 y80 y81 y82 y83 y84 : Value), Nums wx a' l' c' ws → ResOf n xs N ws err → Below W.heap.size W wx → Q .ret ⟨#[x0, x1, x2, x3, x4, .pointer (some ⟨A, 0, none⟩), x6, x7, x8, x9, .pointer (some ⟨R, 0, none⟩), .int .i64 err, x12, x13, .slice p k cp, x15, x16, x17, x18, x19, x20, x21, x22, x23, x24, x25, x26, x27, x28, x29, x30, x31, x32, x33, x34, x35, x36, x37, x38, x39, x40, x41, x42, x43, x44, x45, x46, x47, x48, x49, x50, x51, x52, x53, x54, x55, x56, x57, x58, x59, x60, x61, x62, x63, x64, x65, x66, x67, x68, x69, x70, x71, x72, x73, x74, x75, x76, x77, x78, y79, y80, y81, y82, y83, y84], []⟩ ((wx.setCell ⟨R, 0, none⟩ (.int .i64 N)).setCell ⟨R, 1, none⟩ (.slice a' l' c'))) := hR
  clear hR
  have HC := (show Hid _ from r14of_any n p k cp xs W hL hk)
  have hRl : R < W.heap.size := (Array.getElem?_eq_some_iff.1 hR).1
  have HRo : Hid (W.heap[R]? = some (.cells #[.int .i64 0, .slice none 0 0] 25 (0, 0))) := hR
  clear hL hk hR
  go_wp2_with fail
  refine Calls.mono HC.out ?_
  rintro e wx ⟨N, a', l', c', ws, err, rfl, h1, h2, h3⟩
  obtain ⟨⟨r0, f0⟩, ⟨r1, f1⟩, z0, z1⟩ := put2_cells ((h3.block _ hRl).trans HRo.out) (.int .i64 N) (.slice a' l' c')
  have HT : Hid (Nums wx a' l' c' ws ∧ ResOf n xs N ws err ∧ Below W.heap.size W wx) := ⟨h1, h2, h3⟩
  clear h1 h2 h3 HC a0 z0 z1 HRo
  dsimp only
  go_wp2_with fail
  exact HR.out N a' l' c' ws err wx _ _ _ _ _ _ HT.out.1 HT.out.2.1 HT.out.2.2

set_option maxRecDepth 100000 in
set_option maxHeartbeats 12800000 in
theorem bo_l {x0 x1 x7 x8 x9 x10 x11 x12 x13 x15 x16 x17 x18 x19 x20 x21 x22 x23 x24 x25 x26 x27 x28 x29 x30 x31 x32 x33 x34 x35 x36 x37 x38 x39 x40 x41 x42 x43 x44 x45 x46 x47 x48 x49 x50 x51 x52 x53 x54 x55 x56 x57 x58 x59 x60 x61 x62 x63 x64 x65 x66 x67 x68 x69 x70 x71 x72 x73 x74 x75 x76 x77 x78 x79 x80 x81 x82 x83 x84 : Value} {Q : Exit → Act → World → Prop} {W : World} {A B m : Nat} {p q r : Bool} {a b : Option Addr} {la ca lb cb : Nat} {ws vs : List Int} (a0 : W.cell? ⟨A, 0, none⟩ = some (.int .i64 (m : Int))) (a1 : W.cell? ⟨A, 1, none⟩ = some (.slice a la ca)) (b0 : W.cell? ⟨B, 0, none⟩ = some (.int .i64 (m : Int))) (b1 : W.cell? ⟨B, 1, none⟩ = some (.slice b lb cb)) (hx : Nums W a la ca ws) (hy : Nums W b lb cb vs) (hm : m ≤ 65536) (hla : m ≤ 64 * la) (hlb : m ≤ 64 * lb)
    (hN : ∀ (v : Value) (wx : World) (y15 y16 y17 y36 y37 y38 y39 y40 y41 y42 y43 y44 y45 y46 y47 y48 y49 y50 y51 y52 y53 y54 y55 y56 y57 y58 y59 y60 y61 y62 y63 y64 y65 y66 y67 y68 y69 y70 y71 y72 y73 y74 y75 y76 y77 y78 : Value), IOwn wx W.heap.size v (ints (numsOfS m (fun i => (fun x y => (x && y && p) || (x && !y && q) || (!x && y && r)) (wbit ws i) (wbit vs i)))) → Below W.heap.size W wx → Q .normal ⟨#[x0, x1, .bool p, .bool q, .bool r, .pointer (some ⟨A, 0, none⟩), .pointer (some ⟨B, 0, none⟩), x7, x8, x9, x10, x11, x12, x13, v, y15, y16, y17, x18, x19, x20, x21, x22, x23, x24, x25, x26, x27, x28, x29, x30, x31, x32, x33, x34, x35, y36, y37, y38, y39, y40, y41, y42, y43, y44, y45, y46, y47, y48, y49, y50, y51, y52, y53, y54, y55, y56, y57, y58, y59, y60, y61, y62, y63, y64, y65, y66, y67, y68, y69, y70, y71, y72, y73, y74, y75, y76, y77, y78, x79, x80, x81, x82, x83, x84], []⟩ wx) :
    Code.wp Try.prog ((Try.f27.body.bind (pcAt 6)).getD .skip) Q ⟨#[x0, x1, .bool p, .bool q, .bool r, .pointer (some ⟨A, 0, none⟩), .pointer (some ⟨B, 0, none⟩), x7, x8, x9, x10, x11, x12, x13, .slice none 0 0, x15, x16, x17, x18, x19, x20, x21, x22, x23, x24, x25, x26, x27, x28, x29, x30, x31, x32, x33, x34, x35, x36, x37, x38, x39, x40, x41, x42, x43, x44, x45, x46, x47, x48, x49, x50, x51, x52, x53, x54, x55, x56, x57, x58, x59, x60, x61, x62, x63, x64, x65, x66, x67, x68, x69, x70, x71, x72, x73, x74, x75, x76, x77, x78, x79, x80, x81, x82, x83, x84], []⟩ W := by
  conv => arg 2; whnf
  have HN : Hid (∀ (v : Value) (wx : World) (y15 y16 y17 y36 y37 y38 y39 y40 y41 y42 y43 y44 y45 y46 y47 y48 y49 y50 y51 y52 y53 y54 y55 y56 y57 y58 y59 y60 y61 y62 y63 y64 y65 y66 y67 y68 y69 y70 y71 y72 y73 y74 y75 y76 y77 y78 : Value), IOwn wx W.heap.size v (ints (numsOfS m (fun i => (fun x y => (x && y && p) || (x && !y && q) || (!x && y && r)) (wbit ws i) (wbit vs i)))) → Below W.heap.size W wx → Q .normal ⟨#[x0, x1, .bool p, .bool q, .bool r, .pointer (some ⟨A, 0, none⟩), .pointer (some ⟨B, 0, none⟩), x7, x8, x9, x10, x11, x12, x13, v, y15, y16, y17, x18, x19, x20, x21, x22, x23, x24, x25, x26, x27, x28, x29, x30, x31, x32, x33, x34, x35, y36, y37, y38, y39, y40, y41, y42, y43, y44, y45, y46, y47, y48, y49, y50, y51, y52, y53, y54, y55, y56, y57, y58, y59, y60, y61, y62, y63, y64, y65, y66, y67, y68, y69, y70, y71, y72, y73, y74, y75, y76, y77, y78, x79, x80, x81, x82, x83, x84], []⟩ wx) := hN
  clear hN
  refine pcSeq (fun Q1 n1 r1 _ => ?_)
  go_wp2_with fail
  refine n1 _ _ (pcBlock (fun Q2 n2 e2 r2 => ?_))
  go_loopw [14, 15] (fun v14 v15 wr => ∃ i : Nat, v15 = .int .i64 (i : Int) ∧ i ≤ m ∧ IOwn wr W.heap.size v14 (ints (numsOfS i (fun i => (fun x y => (x && y && p) || (x && !y && q) || (!x && y && r)) (wbit ws i) (wbit vs i)))) ∧ Below W.heap.size W wr) (fun _ v15 _ => m - (intOf v15).toNat)
  case atStart => exact ⟨0, rfl, Nat.zero_le _, IOwn.nil _ _, Below.refl _ _⟩
  case round =>
    obtain ⟨i, rfl, hi, hO, hB⟩ := hrel
    refine pcSeq (fun Q3 n3 r3 e3 => bo_t7 hi (bkeep hB a0 rfl) ?_ ?_)
    · intros
      rename_i hlt
      refine n3 _ _ (pcSeq (fun Q4 n4 r4 e4 => pcBlock (fun Q5 n5 e5 r5 => ?_)))
      refine pcSeq (fun Q6 n6 r6 e6 => bo_p9 (bkeep hB a0 rfl) (bkeep hB a1 rfl) (hx.below hB) (by omega) (by omega) ?_)
      intro w1
      intros
      rename_i hb1
      have hB1 := bthen hB hb1
      refine n6 _ _ (pcSeq (fun Q7 n7 r7 e7 => bo_p10 (bkeep hB1 b0 rfl) (bkeep hB1 b1 rfl) (hy.below hB1) (by omega) (by omega) ?_))
      intro w2
      intros
      rename_i hb2
      have hB2 := bthen hB1 hb2
      have hO2 : IOwn w2 W.heap.size u14 (ints (numsOfS i (fun i => (fun x y => (x && y && p) || (x && !y && q) || (!x && y && r)) (wbit ws i) (wbit vs i)))) := World.ownsRow.kept hO (grown_of_below (bthen hb1 hb2) none) (by cases u14.ownBlock <;> simp)
      refine n7 _ _ (bo_p11 hO2 (by rw [ints_len]; have := numsOfS_len i (fun i => (fun x y => (x && y && p) || (x && !y && q) || (!x && y && r)) (wbit ws i) (wbit vs i)); omega) hB2.size ?_)
      intro v3 w3
      intros
      rename_i hO3 hb3
      refine n5 _ _ (n4 _ _ (bo_p8 (by omega) ?_))
      intros
      dsimp only [Exit.then]
      go_roundw
      case rel =>
        refine ⟨i + 1, rfl, by omega, ?_, hB2.trans hb3⟩
        rw [numsOfS_next]
        split
        · rename_i c
          rw [if_pos c] at hO3
          rw [show ∀ l : List Nat, ints (l ++ [i]) = ints l ++ [(i : Int)] from fun l => by simp [ints]]
          exact hO3
        · rename_i c
          rw [if_neg c] at hO3
          exact hO3
      case measure => simp [intOf]; omega
    · intros
      rename_i he
      subst he
      exact e3 _ _ _ (e2 _ _ (HN.out _ _ _ _ _ _ _ _ _ _ _ _ _ _ _ _ _ _ _ _ _ _ _ _ _ _ _ _ _ _ _ _ _ _ _ _ _ _ _ _ _ _ _ _ _ _ _ _ hO hB))

set_option maxRecDepth 100000 in
theorem bo_ret {x0 x1 x2 x3 x4 x5 x6 x7 x8 x9 x12 x13 x14 x15 x16 x17 x18 x19 x20 x21 x22 x23 x24 x25 x26 x27 x28 x29 x30 x31 x32 x33 x34 x35 x36 x37 x38 x39 x40 x41 x42 x43 x44 x45 x46 x47 x48 x49 x50 x51 x52 x53 x54 x55 x56 x57 x58 x59 x60 x61 x62 x63 x64 x65 x66 x67 x68 x69 x70 x71 x72 x73 x74 x75 x76 x77 x78 x79 x80 x81 x82 x83 x84 : Value} {n e : Int} {a : Option Addr} {l c : Nat} {R : Nat} {post : Ending → World → Prop} {W : World} (r0 : W.cell? ⟨R, 0, none⟩ = some (.int .i64 n)) (r1 : W.cell? ⟨R, 1, none⟩ = some (.slice a l c)) (h : post (.returned (.tuple #[.agg #[.int .i64 n, .slice a l c], .int .i64 e])) W) : bodyPost Try.prog Try.f27 post .ret ⟨#[x0, x1, x2, x3, x4, x5, x6, x7, x8, x9, .pointer (some ⟨R, 0, none⟩), .int .i64 e, x12, x13, x14, x15, x16, x17, x18, x19, x20, x21, x22, x23, x24, x25, x26, x27, x28, x29, x30, x31, x32, x33, x34, x35, x36, x37, x38, x39, x40, x41, x42, x43, x44, x45, x46, x47, x48, x49, x50, x51, x52, x53, x54, x55, x56, x57, x58, x59, x60, x61, x62, x63, x64, x65, x66, x67, x68, x69, x70, x71, x72, x73, x74, x75, x76, x77, x78, x79, x80, x81, x82, x83, x84], []⟩ W :=
  bodyPost_ret (v := .tuple #[.agg #[.int .i64 n, .slice a l c], .int .i64 e]) (by simp [results, Try.results27, go_sem, r0, r1]) rfl h

set_option maxRecDepth 100000 in
set_option maxHeartbeats 12800000 in
theorem r14both_any (M K : Int) (a b : Option Addr) (la ca lb cb : Nat) (ws vs : List Int) (p q r : Bool) (w : World) (hM : -9223372036854775808 ≤ M ∧ M < 9223372036854775808) (hK : -9223372036854775808 ≤ K ∧ K < 9223372036854775808) (hx : Nums w a la ca ws) (hy : Nums w b lb cb vs) : Calls Try.prog 27 #[.agg #[.int .i64 M, .slice a la ca], .agg #[.int .i64 K, .slice b lb cb], .bool p, .bool q, .bool r] w fun e w' => JoinT14 (fun x y => (x && y && p) || (x && !y && q) || (!x && y && r)) M ws K vs w e w' := by
  go_enter Try.func27, Try.ntmps27
  refine pcSeq (fun Q0 n0 r0 _ => bo_p0 ?_)
  have hV := bthen (bthen (balloc w (.cells #[.int .i64 M, .slice a la ca] 25)) (balloc (w.alloc (.cells #[.int .i64 M, .slice a la ca] 25)) (.cells #[.int .i64 K, .slice b lb cb] 25))) (balloc ((w.alloc (.cells #[.int .i64 M, .slice a la ca] 25)).alloc (.cells #[.int .i64 K, .slice b lb cb] 25)) (.cells #[.int .i64 0, .slice none 0 0] 25))
  obtain ⟨V, hVe⟩ : ∃ V, V = (((w.alloc (.cells #[.int .i64 M, .slice a la ca] 25)).alloc (.cells #[.int .i64 K, .slice b lb cb] 25)).alloc (.cells #[.int .i64 0, .slice none 0 0] 25)) := ⟨_, rfl⟩
  obtain ⟨G, hG⟩ : ∃ G, G = w.heap.size := ⟨_, rfl⟩
  have a0 : V.cell? ⟨G, 0, none⟩ = some (.int .i64 M) := by rw [hVe, hG]; exact bkeep (balloc _ _) (by simp) rfl
  have a1 : V.cell? ⟨G, 1, none⟩ = some (.slice a la ca) := by rw [hVe, hG]; exact bkeep (balloc _ _) (by simp) rfl
  have b0 : V.cell? ⟨G + 1, 0, none⟩ = some (.int .i64 K) := by rw [hVe, hG]; exact bkeep (balloc _ _) (by simp) rfl
  have b1 : V.cell? ⟨G + 1, 1, none⟩ = some (.slice b lb cb) := by rw [hVe, hG]; exact bkeep (balloc _ _) (by simp) rfl
  have hR : V.heap[G + 2]? = some (.cells #[.int .i64 0, .slice none 0 0] 25 (0, 0)) := by
    have := heap_alloc_new ((w.alloc (.cells #[.int .i64 M, .slice a la ca] 25)).alloc (.cells #[.int .i64 K, .slice b lb cb] 25)) (.cells #[.int .i64 0, .slice none 0 0] 25)
    rw [hVe, hG]
    simpa using this
  have hRl : G + 2 < V.heap.size := (Array.getElem?_eq_some_iff.1 hR).1
  rw [← hVe] at hV
  rw [← hVe, ← hG]
  refine n0 _ _ (pcSeq (fun Q1 n1 r1 _ => bo_p1 hM a0 a1 (hx.below hV) ?_))
  intro z w1
  intros
  rename_i hz hb1
  refine n1 _ _ (pcSeq (fun Q2 n2 r2 _ => bo_p2 hK (bkeep hb1 b0 rfl) (bkeep hb1 b1 rfl) ((hy.below hV).below hb1) ?_))
  intro y w2
  intros
  rename_i hy2 hb2
  have hB2 := bthen hb1 hb2
  have hR2 : w2.heap[G + 2]? = some (.cells #[.int .i64 0, .slice none 0 0] 25 (0, 0)) := (hB2.block _ hRl).trans hR
  obtain ⟨⟨c0, c1⟩, ⟨c2, c3⟩, c4, c5⟩ := put2_cells hR2 (.int .i64 0) (.slice none 0 0)
  refine n2 _ _ (pcSeq (fun Q3 n3 r3 _ => bo_p3 (bkeep hB2 a0 rfl) (bkeep hB2 b0 rfl) c0 c2 c1 c3 ?_ ?_))
  · intros
    rename_i e1 e2 e3
    subst e3
    have k1 := hz.1 e1
    have k2 := hy2.1 e2
    obtain ⟨m, rfl⟩ : ∃ m : Nat, M = (m : Int) := ⟨M.toNat, by have := k1.lo; omega⟩
    have hla : m ≤ 64 * la := by have := k1.len; have := hx.hlen; omega
    have hlb : m ≤ 64 * lb := by have := k2.len; have := hy.hlen; omega
    have hm : m ≤ 65536 := by have := k1.hi; omega
    refine n3 _ _ (pcSeq (fun Q4 n4 r4 _ => bo_p5 ?_))
    refine n4 _ _ (pcSeq (fun Q5 n5 r5 _ => bo_l (bkeep hB2 a0 rfl) (bkeep hB2 a1 rfl) (bkeep hB2 b0 rfl) (bkeep hB2 b1 rfl) ((hx.below hV).below hB2) ((hy.below hV).below hB2) hm hla hlb ?_))
    intro v w3
    intros
    rename_i hO hb3
    obtain ⟨pp, cp, rfl, hL, -⟩ := hO.lsts (fun x hx => by
      obtain ⟨j, hj, rfl⟩ := List.mem_map.1 hx
      have := ((numsOfS_mem _ _ _).1 hj).1
      omega)
    have hB3 := bthen hB2 hb3
    have hln := numsOfS_len m (fun i => (fun x y => (x && y && p) || (x && !y && q) || (!x && y && r)) (wbit ws i) (wbit vs i))
    refine n5 _ _ (bo_p13 (bkeep hB3 a0 rfl) ((hB3.block _ hRl).trans hR) hL (by rw [ints_len]; omega) ?_)
    intro N a' l' c' us err w4
    intros
    rename_i q1 q2 q3
    have hB4 := bthen hB3 q3
    have hR4 : w4.heap[G + 2]? = some (.cells #[.int .i64 0, .slice none 0 0] 25 (0, 0)) := (hB4.block _ hRl).trans hR
    obtain ⟨-, -, c6, c7⟩ := put2_cells hR4 (.int .i64 N) (.slice a' l' c')
    exact bo_ret c6 c7 ⟨N, a', l', c', us, err, rfl, Nums.keep14 hR4 q1 (fun u e => by cases e) (fun u e => by cases e), q2.join k1 k2, put2_below (bthen hV hB4) (by omega) _ _⟩
  · intros
    rename_i hno
    refine r3 _ _ (bo_ret c4 c5 ⟨0, none, 0, 0, [], 1, rfl, ?_, .inl ⟨fun e => hno ⟨hz.2 e.1, hy2.2 e.2.1, e.2.2⟩, rfl, rfl, rfl⟩, put2_below (bthen hV hB2) (by omega) _ _⟩)
    exact ⟨rfl, Nat.le_refl _, Nat.zero_le _, fun h => absurd h (Nat.lt_irrefl _), fun x hx => by cases hx⟩
end Go.Proofs.Ytfgccldkbolkoaa
