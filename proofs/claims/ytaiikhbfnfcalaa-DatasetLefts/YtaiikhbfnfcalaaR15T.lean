/-
  The document's Take, its loops. Written by mk/r15take.py.
  The document's Take, the whole. Written by mk/r15take.py.
-/
import Derived.Test.YtaiikhbfnfcalaaRef15P
import Derived.Test.YtaiikhbfnfcalaaR15K
import Derived.Test.YtaiikhbfnfcalaaR15G
import Derived.Test.YtaiikhbfnfcalaaRef15S
namespace Go.Proofs.Ytaiikhbfnfcalaa
open Go.RowKit

set_option maxRecDepth 100000 in
set_option maxHeartbeats 12800000 in
theorem tk_l4 {x0 x3 x4 x5 x6 x7 x8 x9 x12 x13 x14 x15 x16 x17 x18 x19 x20 x21 x22 x23 x24 x25 x26 x27 x28 x29 x30 x31 x32 x33 x34 x35 x36 x37 x38 x39 x40 x41 x42 x43 x44 x45 x46 x47 x48 x49 x50 x51 x52 x53 x54 x55 x56 x57 x58 x59 x60 x61 x62 x63 x64 x65 x66 x67 x68 x69 x70 x71 x72 x73 x74 x75 x76 x77 x78 x79 x80 x81 x82 x83 : Value} {Q : Exit → Act → World → Prop} {W : World} {g l c k : Nat} {p : Option Addr} {v : TV} {t : Tab} {xs : List Int} (hv : TVar W g v) (ht : TabAt W v t) (hL : Lsts W p l c xs) (hk : k < v.l2) (hcol : ColOk t.ids.length (t.bins.getD k 0) (t.cols.getD k [])) (hin : ∀ x, x ∈ xs → x ∈ t.ids) (h256 : l ≤ 256)
    (hN : ∀ (v5 : Value) (wx : World) (y12 y54 y55 y56 y57 y58 y59 y60 y61 y62 y63 y64 y65 y66 y67 y68 y69 y70 y71 y72 y73 y74 y75 y76 : Value), IOwn wx W.heap.size v5 (xs.map (fun x => (t.cols.getD k []).getD (idx t.ids x) 0)) → Below W.heap.size W wx → Q .normal ⟨#[x0, .slice p l c, .pointer (some ⟨g, 0, none⟩), x3, x4, x5, x6, x7, x8, x9, .int .i64 (k : Int), v5, y12, x13, x14, x15, x16, x17, x18, x19, x20, x21, x22, x23, x24, x25, x26, x27, x28, x29, x30, x31, x32, x33, x34, x35, x36, x37, x38, x39, x40, x41, x42, x43, x44, x45, x46, x47, x48, x49, x50, x51, x52, x53, y54, y55, y56, y57, y58, y59, y60, y61, y62, y63, y64, y65, y66, y67, y68, y69, y70, y71, y72, y73, y74, y75, y76, x77, x78, x79, x80, x81, x82, x83], []⟩ wx) :
    Code.wp Try.prog (((Try.f16.body.bind (pcBlk 3)).bind (pcAt 15)).getD .skip) Q ⟨#[x0, .slice p l c, .pointer (some ⟨g, 0, none⟩), x3, x4, x5, x6, x7, x8, x9, .int .i64 (k : Int), .slice none 0 0, x12, x13, x14, x15, x16, x17, x18, x19, x20, x21, x22, x23, x24, x25, x26, x27, x28, x29, x30, x31, x32, x33, x34, x35, x36, x37, x38, x39, x40, x41, x42, x43, x44, x45, x46, x47, x48, x49, x50, x51, x52, x53, x54, x55, x56, x57, x58, x59, x60, x61, x62, x63, x64, x65, x66, x67, x68, x69, x70, x71, x72, x73, x74, x75, x76, x77, x78, x79, x80, x81, x82, x83], []⟩ W := by
  conv => arg 2; whnf
  have HN : Hid (∀ (v5 : Value) (wx : World) (y12 y54 y55 y56 y57 y58 y59 y60 y61 y62 y63 y64 y65 y66 y67 y68 y69 y70 y71 y72 y73 y74 y75 y76 : Value), IOwn wx W.heap.size v5 (xs.map (fun x => (t.cols.getD k []).getD (idx t.ids x) 0)) → Below W.heap.size W wx → Q .normal ⟨#[x0, .slice p l c, .pointer (some ⟨g, 0, none⟩), x3, x4, x5, x6, x7, x8, x9, .int .i64 (k : Int), v5, y12, x13, x14, x15, x16, x17, x18, x19, x20, x21, x22, x23, x24, x25, x26, x27, x28, x29, x30, x31, x32, x33, x34, x35, x36, x37, x38, x39, x40, x41, x42, x43, x44, x45, x46, x47, x48, x49, x50, x51, x52, x53, y54, y55, y56, y57, y58, y59, y60, y61, y62, y63, y64, y65, y66, y67, y68, y69, y70, y71, y72, y73, y74, y75, y76, x77, x78, x79, x80, x81, x82, x83], []⟩ wx) := hN
  clear hN
  have hlen := hL.hlen
  refine pcSeq (fun Q1 n1 r1 _ => ?_)
  go_wp2_with fail
  refine n1 _ _ (pcBlock (fun Q2 n2 e2 r2 => ?_))
  go_loopw [11, 12] (fun v11 v12 wr => ∃ i : Nat, v12 = .int .i64 (i : Int) ∧ i ≤ l ∧ IOwn wr W.heap.size v11 ((xs.take i).map (fun x => (t.cols.getD k []).getD (idx t.ids x) 0)) ∧ Below W.heap.size W wr) (fun _ v12 _ => l - (intOf v12).toNat)
  case atStart => exact ⟨0, rfl, Nat.zero_le _, IOwn.nil _ _, Below.refl _ _⟩
  case round =>
    obtain ⟨i, rfl, hi, hO, hb⟩ := hrel
    refine pcSeq (fun Q3 n3 r3 e3 => tk_t16 hi ?_ ?_)
    · intros
      rename_i hlt
      refine n3 _ _ (pcSeq (fun Q4 n4 r4 e4 => pcBlock (fun Q5 n5 e5 r5 => ?_)))
      obtain ⟨b, off, rfl, mi⟩ := (hL.below hb).at hlt
      have ht' := ht.below hb
      have hv' := hv.below hb
      have hxi : xs.getD i 0 ∈ t.ids := hin _ (mem_getD (by omega))
      have hpl := placeI_at hxi
      have hil := idx_lt.2 hxi
      obtain ⟨bq, oq, r, rn, rk, q2, mk, hLk⟩ := ht'.cols.at hk
      have hrn := hLk.hlen
      have hcl := hcol.len
      obtain ⟨bc, oc, rfl, my⟩ := hLk.at (i := idx t.ids (xs.getD i 0)) (by omega)
      have c2 := hv'.cells.2.2.1
      rw [q2] at c2
      have hrg := hcol.rng _ hil
      have hb32 := hcol.hi
      refine tk_p18 hv'.cells.1 c2 mk mi my hlt hk hpl (by omega) ht'.ids hO (by simp; omega) hb.size (by omega) ?_
      intro v5 w5
      intros
      rename_i g1 g2
      refine n5 _ _ (n4 _ _ (tk_p17 (by omega) ?_))
      intros
      dsimp only [Exit.then]
      go_roundw
      case rel => exact ⟨i + 1, by go_num, hlt, by rw [take_one (by omega), List.map_append]; exact g1, hb.trans g2⟩
      case measure => simp [intOf]; omega
    · intros
      rename_i he
      subst he
      rw [← hlen, List.take_length] at hO
      exact e3 _ _ _ (e2 _ _ (HN.out _ _ _ _ _ _ _ _ _ _ _ _ _ _ _ _ _ _ _ _ _ _ _ _ _ _ hO hb))

set_option maxRecDepth 100000 in
set_option maxHeartbeats 12800000 in
theorem tk_l2 {x0 x3 x4 x5 x6 x7 x9 x10 x11 x12 x13 x14 x15 x16 x17 x18 x19 x20 x21 x22 x23 x24 x25 x26 x27 x28 x29 x30 x31 x32 x33 x34 x35 x36 x37 x38 x39 x40 x41 x42 x43 x44 x45 x46 x47 x48 x49 x50 x51 x52 x53 x54 x55 x56 x57 x58 x59 x60 x61 x62 x63 x64 x65 x66 x67 x68 x69 x70 x71 x72 x73 x74 x75 x76 x77 x78 x79 x80 x81 x82 x83 : Value} {Q : Exit → Act → World → Prop} {w X W : World} {g R s l c : Nat} {p : Option Addr} {v u0 u : TV} {t : Tab} {xs : List Int} (ht : TabAt w v t) (hL : Lsts w p l c xs) (hok : TakeOk t xs) (hw : ∀ W', Only (fun b => b = s) X W' → Below w.heap.size w W') (hJ : TkAt X g R s v u0 u [] W)
    (hN : ∀ (u' : TV) (wx : World) (y10 y11 y12 y47 y48 y49 y50 y51 y52 y53 y54 y55 y56 y57 y58 y59 y60 y61 y62 y63 y64 y65 y66 y67 y68 y69 y70 y71 y72 y73 y74 y75 y76 y77 y78 y79 y80 y81 y82 : Value), TkAt X g R s v u0 u' (t.cols.map (fun c => xs.map fun x => c.getD (idx t.ids x) 0)) wx → Q .normal ⟨#[x0, .slice p l c, .pointer (some ⟨g, 0, none⟩), x3, x4, x5, x6, x7, .pointer (some ⟨s, 0, none⟩), x9, y10, y11, y12, x13, x14, x15, x16, x17, x18, x19, x20, x21, x22, x23, x24, x25, x26, x27, x28, x29, x30, x31, x32, x33, x34, x35, x36, x37, x38, x39, x40, x41, x42, x43, x44, x45, x46, y47, y48, y49, y50, y51, y52, y53, y54, y55, y56, y57, y58, y59, y60, y61, y62, y63, y64, y65, y66, y67, y68, y69, y70, y71, y72, y73, y74, y75, y76, y77, y78, y79, y80, y81, y82, x83], []⟩ wx) :
    Code.wp Try.prog ((Try.f16.body.bind (pcAt 11)).getD .skip) Q ⟨#[x0, .slice p l c, .pointer (some ⟨g, 0, none⟩), x3, x4, x5, x6, x7, .pointer (some ⟨s, 0, none⟩), x9, x10, x11, x12, x13, x14, x15, x16, x17, x18, x19, x20, x21, x22, x23, x24, x25, x26, x27, x28, x29, x30, x31, x32, x33, x34, x35, x36, x37, x38, x39, x40, x41, x42, x43, x44, x45, x46, x47, x48, x49, x50, x51, x52, x53, x54, x55, x56, x57, x58, x59, x60, x61, x62, x63, x64, x65, x66, x67, x68, x69, x70, x71, x72, x73, x74, x75, x76, x77, x78, x79, x80, x81, x82, x83], []⟩ W := by
  conv => arg 2; whnf
  have HN : Hid (∀ (u' : TV) (wx : World) (y10 y11 y12 y47 y48 y49 y50 y51 y52 y53 y54 y55 y56 y57 y58 y59 y60 y61 y62 y63 y64 y65 y66 y67 y68 y69 y70 y71 y72 y73 y74 y75 y76 y77 y78 y79 y80 y81 y82 : Value), TkAt X g R s v u0 u' (t.cols.map (fun c => xs.map fun x => c.getD (idx t.ids x) 0)) wx → Q .normal ⟨#[x0, .slice p l c, .pointer (some ⟨g, 0, none⟩), x3, x4, x5, x6, x7, .pointer (some ⟨s, 0, none⟩), x9, y10, y11, y12, x13, x14, x15, x16, x17, x18, x19, x20, x21, x22, x23, x24, x25, x26, x27, x28, x29, x30, x31, x32, x33, x34, x35, x36, x37, x38, x39, x40, x41, x42, x43, x44, x45, x46, y47, y48, y49, y50, y51, y52, y53, y54, y55, y56, y57, y58, y59, y60, y61, y62, y63, y64, y65, y66, y67, y68, y69, y70, y71, y72, y73, y74, y75, y76, y77, y78, y79, y80, y81, y82, x83], []⟩ wx) := hN
  clear hN
  have hcl := ht.cols.hlen
  have h16 := hok.tab.few
  have hlen := hL.hlen
  have h256 := hok.idl.few
  refine pcSeq (fun Q1 n1 r1 _ => ?_)
  go_wp2_with fail
  refine n1 _ _ (pcBlock (fun Q2 n2 e2 r2 => ?_))
  go_loopw [10] (fun v10 wr => ∃ (k : Nat) (u' : TV), v10 = .int .i64 (k : Int) ∧ k ≤ t.cols.length ∧ TkAt X g R s v u0 u' ((t.cols.take k).map (fun c => xs.map fun x => c.getD (idx t.ids x) 0)) wr) (fun v10 _ => t.cols.length - (intOf v10).toNat)
  case atStart => exact ⟨0, u, rfl, Nat.zero_le _, hJ⟩
  case round =>
    clear hJ
    obtain ⟨k, u', rfl, hk, hJ⟩ := hrel
    have hbw := hw _ hJ.only
    refine pcSeq (fun Q3 n3 r3 e3 => tk_t12 hJ.gv (by omega) ?_ ?_)
    · intros
      rename_i hlt
      have hkl : k < t.cols.length := by omega
      refine n3 _ _ (pcSeq (fun Q4 n4 r4 e4 => pcBlock (fun Q5 n5 e5 r5 => ?_)))
      refine pcSeq (fun Q6 n6 r6 e6 => tk_p14 ?_)
      intros
      refine n6 _ _ (pcSeq (fun Q7 n7 r7 e7 => tk_l4 hJ.gv (ht.below hbw) (hL.below hbw) hlt (hok.tab.col k hkl) hok.has (by omega) ?_))
      intro v5 w1
      intros
      rename_i hO hb1
      have hd : ∀ y, y ∈ xs.map (fun x => (t.cols.getD k []).getD (idx t.ids x) 0) → -9223372036854775808 ≤ y ∧ y < 9223372036854775808 := fun y hy => by
        obtain ⟨x, hx, rfl⟩ := List.mem_map.1 hy
        have h1 := (hok.tab.col k hkl).rng _ (idx_lt.2 (hok.has x hx))
        have h2 := (hok.tab.col k hkl).hi
        omega
      have hlo := World.ownsRow.lt hO
      obtain ⟨a5, k5, rfl, hL5, -⟩ := hO.lsts hd
      have hJ1 := hJ.grow hb1
      have hXw : X.heap.size ≤ wr.heap.size := hJ.only.size
      have hsX := hJ.low.1
      refine n7 _ _ (tk_p19 hJ1.var hJ1.cols ⟨hL5, fun ad e => ?_⟩ (by simp; omega) hJ1.only.size ?_)
      · subst e
        have := (hlo ad.block rfl).1
        exact ⟨by omega, by omega⟩
      intro a6 l6 c6 w6
      intros
      rename_i g1 g2
      have hJ2 := hJ1.col g1 g2
      refine n5 _ _ (n4 _ _ (tk_p13 (by omega) ?_))
      intros
      dsimp only [Exit.then]
      go_roundw
      case rel => exact ⟨k + 1, _, by go_num, hkl, by rw [takeC hkl, List.map_append]; exact hJ2⟩
      case measure => simp [intOf]; omega
    · intros
      rename_i he
      have he' : k = t.cols.length := by omega
      subst he'
      rw [List.take_length] at hJ
      exact e3 _ _ _ (e2 _ _ (HN.out _ _ _ _ _ _ _ _ _ _ _ _ _ _ _ _ _ _ _ _ _ _ _ _ _ _ _ _ _ _ _ _ _ _ _ _ _ _ _ _ _ hJ))

end Go.Proofs.Ytaiikhbfnfcalaa

namespace Go.Proofs.Ytaiikhbfnfcalaa
open Go.RowKit

set_option maxRecDepth 100000 in
theorem tk_ret {x0 x1 x2 x3 x6 x7 x8 x9 x10 x11 x12 x13 x14 x15 x16 x17 x18 x19 x20 x21 x22 x23 x24 x25 x26 x27 x28 x29 x30 x31 x32 x33 x34 x35 x36 x37 x38 x39 x40 x41 x42 x43 x44 x45 x46 x47 x48 x49 x50 x51 x52 x53 x54 x55 x56 x57 x58 x59 x60 x61 x62 x63 x64 x65 x66 x67 x68 x69 x70 x71 x72 x73 x74 x75 x76 x77 x78 x79 x80 x81 x82 x83 : Value} {R : Nat} {u : TV} {er : Int} {post : Ending → World → Prop} {W : World} (hr : TVar W R u) (h : post (.returned (.tuple #[.agg #[.slice u.p0 u.l0 u.c0, .slice u.p1 u.l1 u.c1, .slice u.p2 u.l2 u.c2], .int .i64 er])) W) : bodyPost Try.prog Try.f16 post .ret ⟨#[x0, x1, x2, x3, .pointer (some ⟨R, 0, none⟩), .int .i64 er, x6, x7, x8, x9, x10, x11, x12, x13, x14, x15, x16, x17, x18, x19, x20, x21, x22, x23, x24, x25, x26, x27, x28, x29, x30, x31, x32, x33, x34, x35, x36, x37, x38, x39, x40, x41, x42, x43, x44, x45, x46, x47, x48, x49, x50, x51, x52, x53, x54, x55, x56, x57, x58, x59, x60, x61, x62, x63, x64, x65, x66, x67, x68, x69, x70, x71, x72, x73, x74, x75, x76, x77, x78, x79, x80, x81, x82, x83], []⟩ W := by
  obtain ⟨r0, r1, r2, -⟩ := hr.cells
  exact bodyPost_ret (v := .tuple #[.agg #[.slice u.p0 u.l0 u.c0, .slice u.p1 u.l1 u.c1, .slice u.p2 u.l2 u.c2], .int .i64 er]) (by simp [results, Try.results16, go_sem, r0, r1, r2]) rfl h

/-- What Take makes: a table of its own. -/
def TakT15 (t : Tab) (xs : List Int) (w : World) (e : Ending) (w' : World) : Prop := ∃ (v : TV) (t' : Tab) (err : Int), e = .returned (.tuple #[.agg #[.slice v.p0 v.l0 v.c0, .slice v.p1 v.l1 v.c1, .slice v.p2 v.l2 v.c2], .int .i64 err]) ∧ TabF (fun b => w.heap.size ≤ b) w' v t' ∧ ResTab15 (TakeOk t xs) (t.take xs) err t' ∧ Below w.heap.size w w'
theorem TabF.none (F : Nat → Prop) (w : World) : TabF F w TV.none Tab.none := ⟨⟨Lsts.nil _, fun _ e => (by cases e)⟩, ⟨Lsts.nil _, fun _ e => (by cases e)⟩, IRows.nil _, fun _ e => (by cases e), fun _ _ _ _ _ e => (by cases e)⟩
theorem LHd.ent15 {Q : Nat → Prop} {w : World} {base l c : Nat} {p : Option Addr} {ns : List (List Int)} (h : LHd Q w base (.slice p l c) ns) : ∀ ad i p' n k, p = some ad → i < l → w.cell? ⟨ad.block, ad.off + i, none⟩ = some (.slice p' n k) → ∀ a, p' = some a → Q a.block := fun ad i p' n k ep hi hc a ea => by
  rcases h with ⟨e, -⟩ | ⟨b, cap, cur, e, -, hg, -, -, -, -, hE⟩
  · cases e
    cases ep
  · cases e
    cases ep
    obtain ⟨p2, n2, c2, e1, e2⟩ := hE i hi
    have hc' : w.cell? ⟨b, i, none⟩ = some (.slice p' n k) := by simpa using hc
    rw [cell_of_row _ _ _ _ _ _ hg, e1] at hc'
    cases hc'
    exact e2.2 a ea
set_option maxRecDepth 100000 in
set_option maxHeartbeats 3200000 in
theorem r15take_any (v : TV) (t : Tab) (p : Option Addr) (l c : Nat) (xs : List Int) (w : World) (ht : TabAt w v t) (hL : Lsts w p l c xs) : Calls Try.prog 16 #[.agg #[.slice v.p0 v.l0 v.c0, .slice v.p1 v.l1 v.c1, .slice v.p2 v.l2 v.c2], .slice p l c] w fun e w' => TakT15 t xs w e w' := by
  have hlen := hL.hlen
  have hbl := ht.bins.hlen
  have hb0 := bthen (balloc w (.cells v.cells 25)) (balloc _ (.cells TV.none.cells 25))
  have hv0 := (TVar.new w v).below (balloc _ (.cells TV.none.cells 25))
  have hr0 : TVar ((w.alloc (.cells v.cells 25)).alloc (.cells TV.none.cells 25)) (w.heap.size + 1) TV.none := (TVar.new _ TV.none).at15 (by simp)
  have hNone : ∀ (W : World), TVar W (w.heap.size + 1) TV.none → Below w.heap.size w W → ¬ TakeOk t xs → TVar (((W.setCell ⟨w.heap.size + 1, 0, none⟩ (.slice none 0 0)).setCell ⟨w.heap.size + 1, 1, none⟩ (.slice none 0 0)).setCell ⟨w.heap.size + 1, 2, none⟩ (.slice none 0 0)) (w.heap.size + 1) TV.none ∧ TakT15 t xs w (.returned (.tuple #[.agg #[.slice TV.none.p0 TV.none.l0 TV.none.c0, .slice TV.none.p1 TV.none.l1 TV.none.c1, .slice TV.none.p2 TV.none.l2 TV.none.c2], .int .i64 20])) (((W.setCell ⟨w.heap.size + 1, 0, none⟩ (.slice none 0 0)).setCell ⟨w.heap.size + 1, 1, none⟩ (.slice none 0 0)).setCell ⟨w.heap.size + 1, 2, none⟩ (.slice none 0 0)) := fun W hv hb hno =>
    ⟨put3_var TV.none hv, TV.none, Tab.none, 20, rfl, TabF.none _ _, .inl ⟨hno, rfl, rfl⟩, hb.trans ((put3_only (g := w.heap.size + 1) _ _ _).below15 (Nat.le_succ _) hb.size)⟩
  go_enter Try.func16, Try.ntmps16
  refine pcSeq (fun Q0 n0 r0 _ => tk_p0 ?_)
  intros
  refine n0 _ _ (pcSeq (fun Q1 n1 r1 _ => tk_p1 hv0 (ht.below hb0) ?_))
  intro z w2
  intros
  rename_i hz hb2'
  have hb2 := bthen hb0 hb2'
  have hv2 := hv0.below hb2'
  have hr2 := hr0.below hb2'
  refine n1 _ _ (pcSeq (fun Q2 n2 r2 _ => tk_p2 (hL.below hb2) ?_))
  intro y
  intros
  rename_i hy
  refine n2 _ _ (pcSeq (fun Q3 n3 r3 _ => tk_p3 hr2 ?_ ?_))
  · intros
    rename_i ez ey
    have htab := hz.1 ez
    have hids := hy.1 ey
    have f1 := hids.few
    have f2 := htab.few
    have f3 := htab.len
    refine n3 _ _ (pcSeq (fun Q5 n5 r5 _ => tk_p5 hv2 (hL.below hb2) (ht.bins.below hb2) (by omega) (by omega) ?_))
    intro u s X
    intros
    rename_i k1 k2 k3 k4 k5 k6 k7 k8
    have hbX := bthen hb2 k8
    refine n5 _ _ (pcSeq (fun Q6 n6 r6 _ => tk_l0 (hr2.below k8) (hv2.below k8) (ht.ids.below hbX) (hL.below hbX) ?_ ?_))
    · intro Y
      intros
      rename_i hbY hall
      have hok : TakeOk t xs := ⟨htab, hids, hall⟩
      have hbY' := bthen hbX hbY
      have hrY := (hr2.below k8).below hbY
      have hvY := (hv2.below k8).below hbY
      have hsY := k1.below hbY
      have hRs : w.heap.size + 1 ≠ s := by have := hr2.lt; omega
      have hgs : w.heap.size ≠ s := by have := hv2.lt; omega
      have hsw : w.heap.size ≤ s := by have := hv2.lt; omega
      have hJ : TkAt Y w.heap.size (w.heap.size + 1) s v u u [] Y := ⟨hvY, hrY, hsY, ⟨rfl, rfl, rfl, rfl, rfl, rfl⟩, by rw [k4, k5, k6]; exact LHd.nil _ _, Only.refl _ _, hsY.lt, hRs, hgs⟩
      have hw : ∀ W', Only (fun b => b = s) Y W' → Below w.heap.size w W' := fun W' o => hbY'.trans (o.below15 hsw hbY'.size)
      refine n6 _ _ (pcSeq (fun Q7 n7 r7 _ => tk_l2 ht hL hok hw hJ ?_))
      intro u' wx
      intros
      rename_i hJ2
      refine n7 _ _ (tk_p20 hJ2.r hJ2.var ?_)
      intros
      have hbx := hw _ hJ2.only
      have ho := put3_only (W := wx) (g := w.heap.size + 1) (.slice u'.p0 u'.l0 u'.c0) (.slice u'.p1 u'.l1 u'.c1) (.slice u'.p2 u'.l2 u'.c2)
      have hYw := hbY'.size
      have h2w := hb2.size
      obtain ⟨e1, e2, e3, e4, e5, e6⟩ := hJ2.u0
      refine tk_ret (put3_var u' hJ2.r) ⟨u', t.take xs, 0, rfl, ⟨?_, ?_, hJ2.cols.rowVar hJ2.r ho, fun ad e => ?_, fun ad i p' n k e hi hc a ea => ?_⟩, .inr ⟨hok, rfl, rfl⟩, hbx.trans (ho.below15 (Nat.le_succ _) hbx.size)⟩
      · rw [← e1, ← e2, ← e3] at k2
        exact ⟨lsts_var (lsts_only15 (k2.1.below hbY) hJ2.only (fun ad e => (k2.2 ad e).2)) hJ2.r ho, fun ad e => Nat.le_trans h2w (k2.2 ad e).1⟩
      · rw [← e4, ← e5, ← e6] at k3
        exact ⟨lsts_var (lsts_only15 (k3.1.below hbY) hJ2.only (fun ad e => (k3.2 ad e).2)) hJ2.r ho, fun ad e => Nat.le_trans h2w (k3.2 ad e).1⟩
      · exact Nat.le_trans hYw (hJ2.cols.own ad.block (by rw [e]; rfl)).2.1
      · have hlt := (hJ2.cols.own ad.block (by rw [e]; rfl)).2.2
        have hne : ¬ ad.block = w.heap.size + 1 := fun q => rows_var hJ2.cols hJ2.r (by rw [e, ← q]; rfl)
        have hc2 : wx.cell? ⟨ad.block, ad.off + i, none⟩ = some (.slice p' n k) := (World.cell?_of_block (a := ⟨ad.block, ad.off + i, none⟩) (ho.block ad.block hlt hne)).symm.trans hc
        exact Nat.le_trans hYw (hJ2.cols.ent15 ad i p' n k e hi hc2 a ea).2
    · intro Y
      intros
      rename_i hbY hno
      obtain ⟨z1, z2⟩ := hNone Y ((hr2.below k8).below hbY) (bthen hbX hbY) (fun h => hno h.has)
      exact r6 _ _ (tk_ret (u := TV.none) z1 z2)
  · intros
    rename_i hno
    obtain ⟨z1, z2⟩ := hNone w2 hr2 hb2 (fun h => hno ⟨hz.2 h.tab, hy.2 h.idl⟩)
    exact r3 _ _ (tk_ret (u := TV.none) z1 z2)
end Go.Proofs.Ytaiikhbfnfcalaa
