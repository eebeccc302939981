/-
  What is read of a frame's bytes; a frame's variable in memory.
-/
import Derived.Test.YtpoipobmkfphcaaF10Enc
import Derived.Test.YtpoipobmkfphcaaC9Rel
import Derived.Test.YtpoipobmkfphcaaP9LawsO
import Derived.Test.YtpoipobmkfphcaaC9Back
import Derived.Test.YtpoipobmkfphcaaModA
namespace Go.Proofs.Ytpoipobmkfphcaa
open Go.RowKit

theorem read_num {c R : List Int} {n most : Nat} (h : IsCode c n) (hn : n < 18446744073709551616) (hm : n ≤ most) : ResNum (c ++ R) most n 0 R :=
  ⟨n, c.length, NextT.of_code h hn, .inr ⟨fun e => by
    rcases e with e | e
    · exact h.nonempty (List.eq_nil_of_length_eq_zero e)
    · omega, rfl, rfl, by simp⟩⟩
theorem read_byt {c bs : List Int} {most : Int} (h : IsCode c bs.length) (hn : bs.length < 18446744073709551616) (hm : (bs.length : Int) ≤ most) : ResBytR (c ++ bs) most bs 0 [] :=
  ⟨bs.length, c.length, NextT.of_code h hn, .inr ⟨fun e => by
    rcases e with e | e | e | e
    · exact h.nonempty (List.eq_nil_of_length_eq_zero e)
    · omega
    · omega
    · simp at e, by simp, rfl, by simp⟩⟩
theorem ResNum.le {L : List Int} {most n : Nat} {err : Int} {R : List Int} (h : ResNum L most n err R) : n ≤ most := by
  obtain ⟨m, k, h1, h2⟩ := h
  rcases h2 with ⟨c, rfl, rfl, rfl⟩ | ⟨c, rfl, rfl, rfl⟩ <;> omega
/-- What stands between the first byte and the sum. -/
def midL (L : List Int) : List Int := (L.take (L.length - 4)).drop 1
theorem mid_of {m : List Int} {s : Nat} : midL (m ++ be4 s) = m.drop 1 := by
  unfold midL
  rw [show (m ++ be4 s).length - 4 = m.length by simp [be4], List.take_left]
/-- The readings of a frame's bytes tell the frame. -/
theorem dec_all {d : Bool} {s a : Int} {body L : List Int} (h : IsEnc d s a body L) (hr : rightFr d s a body.length = true) {n n2 : Nat} {e e2 e3 : Int} {R1 R2 R3 ys : List Int} (h1 : ResNum (midL L) 1073741824 n e R1) (h2 : ResNum R1 1073741824 n2 e2 R2) (h3 : ResBytR R2 1048576 ys e3 R3) :
    ((n : Int) = s ∧ (n2 : Int) = a ∧ ys = body) ∧ (e = 0 ∧ e2 = 0 ∧ e3 = 0) ∧ R3 = [] := by
  obtain ⟨x1, x2, x3, x4, x5, _⟩ := (rightFr_iff _ _ _ _).1 hr
  obtain ⟨m, ⟨cs, ca, cb, k1, k2, k3, hm⟩, rfl⟩ := h
  rw [mid_of, hm] at h1
  obtain ⟨rfl, rfl, rfl⟩ := h1.unique (read_num (R := ca ++ (cb ++ body)) k1 (by omega) (by omega))
  obtain ⟨rfl, rfl, rfl⟩ := h2.unique (read_num (R := cb ++ body) k2 (by omega) (by omega))
  obtain ⟨rfl, rfl, rfl⟩ := h3.unique (read_byt k3 (by omega) (by omega))
  exact ⟨⟨by omega, by omega, rfl⟩, ⟨rfl, rfl, rfl⟩, rfl⟩
theorem dec_first {d : Bool} {s a : Int} {body L : List Int} (h : IsEnc d s a body L) (hr : rightFr d s a body.length = true) : 8 ≤ L.length ∧ L.getD 0 0 = if d then 1 else 0 := by
  obtain ⟨m, h1, rfl⟩ := h
  have hl := (h1.len hr).2
  obtain ⟨cs, ca, cb, k1, k2, k3, rfl⟩ := h1
  exact ⟨by simp [be4] at hl ⊢; omega, by simp⟩
theorem first_eq {d : Bool} {x : Int} (h : x = if d then 1 else 0) : (x == 1) = d := by
  subst h
  cases d <;> rfl

/-- A frame's variable. -/
structure CellF (w : World) (g : Nat) (d : Bool) (s a : Int) (p : Option Addr) (l c : Nat) : Prop where
  c0 : w.cell? ⟨g, 0, none⟩ = some (.bool d)
  c1 : w.cell? ⟨g, 1, none⟩ = some (.int .i64 s)
  c2 : w.cell? ⟨g, 2, none⟩ = some (.int .i64 a)
  c3 : w.cell? ⟨g, 3, none⟩ = some (.slice p l c)
  f0 : w.frozen? ⟨g, 0, none⟩ = false
  f1 : w.frozen? ⟨g, 1, none⟩ = false
  f2 : w.frozen? ⟨g, 2, none⟩ = false
  f3 : w.frozen? ⟨g, 3, none⟩ = false
theorem CellF.lt {w : World} {g : Nat} {d : Bool} {s a : Int} {p : Option Addr} {l c : Nat} (h : CellF w g d s a p l c) : g < w.heap.size := World.block_lt_of_cell? _ _ h.c0
theorem CellF.below {w w' : World} {g : Nat} {d : Bool} {s a : Int} {p : Option Addr} {l c : Nat} (h : CellF w g d s a p l c) (hb : Below w.heap.size w w') : CellF w' g d s a p l c :=
  ⟨bkeep hb h.c0 rfl, bkeep hb h.c1 rfl, bkeep hb h.c2 rfl, bkeep hb h.c3 rfl, ((bcell hb).2 _ _ h.lt).trans h.f0, ((bcell hb).2 _ _ h.lt).trans h.f1, ((bcell hb).2 _ _ h.lt).trans h.f2, ((bcell hb).2 _ _ h.lt).trans h.f3⟩
theorem CellF.new (w : World) (d : Bool) (s a : Int) (p : Option Addr) (l c : Nat) : CellF (w.alloc (.cells #[.bool d, .int .i64 s, .int .i64 a, .slice p l c] 27)) w.heap.size d s a p l c :=
  ⟨by simp, by simp, by simp, by simp, by simp, by simp, by simp, by simp⟩
theorem Byts.put {w : World} {a : Option Addr} {n c : Nat} {zs : List Int} (h : Byts w a n c zs) {p : Addr} {x : Value} (hp : w.cell? p = some x) (hx : ∀ z, x ≠ .int .u8 z) (v : Value) : Byts (w.setCell p v) a n c zs := by
  refine ⟨h.hlen, h.hcap, h.hmax, fun h0 => ?_, h.word⟩
  obtain ⟨b, off, ha, hc⟩ := h.cells h0
  refine ⟨b, off, ha, fun i hi => ?_⟩
  rw [World.cell?_setCell_other]
  · exact hc i hi
  · rintro rfl
    have := hc i hi
    rw [hp] at this
    exact hx _ (Option.some.inj this)
/-- A frame is stored: no byte has turned. -/
theorem Byts.putF {w : World} {g : Nat} {d : Bool} {s a : Int} {p q : Option Addr} {l c n m : Nat} {zs : List Int} (h : CellF w g d s a p l c) (hn : Byts w q n m zs) (x y z u : Value) :
    Byts ((((w.setCell ⟨g, 0, none⟩ x).setCell ⟨g, 1, none⟩ y).setCell ⟨g, 2, none⟩ z).setCell ⟨g, 3, none⟩ u) q n m zs := by
  refine (((hn.put h.c0 (fun z => by simp) x).put (x := .int .i64 s) ?_ (fun z => by simp) y).put (x := .int .i64 a) ?_ (fun z => by simp) z).put (x := .slice p l c) ?_ (fun z => by simp) u
  · rw [World.cell?_setCell_other]
    · exact h.c1
    · simp
  · rw [World.cell?_setCell_other, World.cell?_setCell_other]
    · exact h.c2
    · simp
    · simp
  · rw [World.cell?_setCell_other, World.cell?_setCell_other, World.cell?_setCell_other]
    · exact h.c3
    · simp
    · simp
    · simp
theorem IsB.put {w : World} {b : Nat} (h : IsB w b) (g j : Nat) (x : Value) : IsB (w.setCell ⟨g, j, none⟩ x) b := by
  obtain ⟨cur, h⟩ := h
  by_cases e : b = g
  · subst e
    exact ⟨_, heap_setCell_same w b j _ _ x h⟩
  · exact ⟨cur, ((grown_set w g j x).block b (Array.getElem?_eq_some_iff.1 h).1 (by simpa using e)).trans h⟩
theorem IsBs.putF {w : World} {a : Option Addr} {l : Nat} (h : IsBs w a l) (g : Nat) (x y z u : Value) : IsBs ((((w.setCell ⟨g, 0, none⟩ x).setCell ⟨g, 1, none⟩ y).setCell ⟨g, 2, none⟩ z).setCell ⟨g, 3, none⟩ u) a l := fun ad e h0 => ((((h ad e h0).put g 0 x).put g 1 y).put g 2 z).put g 3 u
theorem putF_below {B : Nat} {a w : World} (h : Below B a w) {g : Nat} (hg : B ≤ g) (x y z u : Value) : Below B a ((((w.setCell ⟨g, 0, none⟩ x).setCell ⟨g, 1, none⟩ y).setCell ⟨g, 2, none⟩ z).setCell ⟨g, 3, none⟩ u) :=
  (((h.setCell (p := ⟨g, 0, none⟩) hg x).setCell (p := ⟨g, 1, none⟩) hg y).setCell (p := ⟨g, 2, none⟩) hg z).setCell (p := ⟨g, 3, none⟩) hg u
theorem strOf_list10 (bs : List Int) : (strOf bs).data.toList = bs.map (fun n => UInt8.ofNat n.toNat) := by
  have h : ∀ (bs : List Int) (r : ByteArray), (bs.foldl (fun r n => r.push (UInt8.ofNat n.toNat)) r).data.toList = r.data.toList ++ bs.map (fun n => UInt8.ofNat n.toNat) := by
    intro bs
    induction bs with
    | nil => intro r; simp
    | cons b bs ih =>
      intro r
      rw [List.foldl_cons, ih]
      simp [ByteArray.push]
  have := h bs ByteArray.empty
  simpa [strOf] using this
theorem strOf_inj {xs ys : List Int} (hx : Digs 256 xs) (hy : Digs 256 ys) (h : strOf xs = strOf ys) : xs = ys := by
  have h1 := congrArg (fun s => s.data.toList) h
  simp only [strOf_list10] at h1
  have hl := congrArg List.length h1
  simp at hl
  refine List.ext_getElem hl (fun i h2 h3 => ?_)
  have h4 := congrArg (fun l => l[i]?) h1
  simp [h2, h3] at h4
  have a1 := hx xs[i] (List.getElem_mem h2)
  have a2 := hy ys[i] (List.getElem_mem h3)
  have h5 := congrArg UInt8.toNat h4
  simp at h5
  omega
end Go.Proofs.Ytpoipobmkfphcaa
