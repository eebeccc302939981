/-
  Frames as bytes: what they are, and that each is of one frame alone.
-/
import Derived.Test.YtpoipobmkfphcaaF10Ans
import Derived.Test.YtpoipobmkfphcaaRef9A
namespace Go.Proofs.Ytpoipobmkfphcaa
open Go.RowKit

/-- A frame may be: Data, Seq, Ack, and how many bytes the Body has. -/
def rightFr (d : Bool) (s a : Int) (n : Nat) : Bool := decide (0 ≤ s) && (decide (s ≤ 1073741824) && (decide (0 ≤ a) && (decide (a ≤ 1073741824) && (decide (n ≤ 1048576) && (d || (decide (s = 0) && decide (n = 0)))))))
theorem rightFr_iff (d : Bool) (s a : Int) (n : Nat) : rightFr d s a n = true ↔ 0 ≤ s ∧ s ≤ 1073741824 ∧ 0 ≤ a ∧ a ≤ 1073741824 ∧ n ≤ 1048576 ∧ (d = true ∨ s = 0 ∧ n = 0) := by simp [rightFr]
/-- What stands ahead of the sum. -/
def IsHead (d : Bool) (s a : Int) (body m : List Int) : Prop := ∃ cs ca cb, IsCode cs s.toNat ∧ IsCode ca a.toNat ∧ IsCode cb body.length ∧ m = (if d then 1 else 0) :: (cs ++ (ca ++ (cb ++ body)))
/-- A frame's bytes. -/
def IsEnc (d : Bool) (s a : Int) (body ys : List Int) : Prop := ∃ m, IsHead d s a body m ∧ ys = m ++ be4 (sumC m)
theorem code_split {c c' x y : List Int} {n n' : Nat} (h : IsCode c n) (h' : IsCode c' n') (e : c ++ x = c' ++ y) : n = n' ∧ x = y := by
  obtain rfl := h.free h' (L := c ++ x) (List.prefix_append _ _) (by rw [e]; exact List.prefix_append _ _)
  exact ⟨h.num h', List.append_cancel_left e⟩
theorem IsHead.unique {d : Bool} {s a : Int} {body m m' : List Int} (h : IsHead d s a body m) (h' : IsHead d s a body m') : m = m' := by
  obtain ⟨cs, ca, cb, h1, h2, h3, rfl⟩ := h
  obtain ⟨cs', ca', cb', k1, k2, k3, rfl⟩ := h'
  rw [h1.bytes k1, h2.bytes k2, h3.bytes k3]
theorem IsHead.inj {d d' : Bool} {s s' a a' : Int} {body body' m : List Int} (h : IsHead d s a body m) (h' : IsHead d' s' a' body' m) : d = d' ∧ s.toNat = s'.toNat ∧ a.toNat = a'.toNat ∧ body = body' := by
  obtain ⟨cs, ca, cb, h1, h2, h3, rfl⟩ := h
  obtain ⟨cs', ca', cb', k1, k2, k3, e⟩ := h'
  have e' := List.cons.inj e
  have hd : d = d' := by
    have := e'.1
    cases d <;> cases d' <;> simp at this ⊢
  obtain ⟨q1, r1⟩ := code_split h1 k1 e'.2
  obtain ⟨q2, r2⟩ := code_split h2 k2 r1
  obtain ⟨_, r3⟩ := code_split h3 k3 r2
  exact ⟨hd, q1, q2, r3⟩
theorem IsEnc.unique {d : Bool} {s a : Int} {body ys ys' : List Int} (h : IsEnc d s a body ys) (h' : IsEnc d s a body ys') : ys = ys' := by
  obtain ⟨m, h1, rfl⟩ := h
  obtain ⟨m', h2, rfl⟩ := h'
  rw [h1.unique h2]
theorem enc_split {m m' : List Int} {s t : Nat} (e : m ++ be4 s = m' ++ be4 t) : m = m' ∧ be4 s = be4 t := List.append_inj' e rfl
theorem IsEnc.inj {d d' : Bool} {s s' a a' : Int} {body body' ys : List Int} (h : IsEnc d s a body ys) (h' : IsEnc d' s' a' body' ys) (hr : rightFr d s a body.length = true) (hr' : rightFr d' s' a' body'.length = true) : d = d' ∧ s = s' ∧ a = a' ∧ body = body' := by
  obtain ⟨m, h1, rfl⟩ := h
  obtain ⟨m', h2, e⟩ := h'
  obtain ⟨rfl, _⟩ := enc_split e
  obtain ⟨q1, q2, q3, q4⟩ := h1.inj h2
  obtain ⟨x1, _, x3, _⟩ := (rightFr_iff _ _ _ _).1 hr
  obtain ⟨y1, _, y3, _⟩ := (rightFr_iff _ _ _ _).1 hr'
  exact ⟨q1, by omega, by omega, q4⟩
theorem IsHead.digs {d : Bool} {s a : Int} {body m : List Int} (h : IsHead d s a body m) (hb : Digs 256 body) : Digs 256 m := by
  obtain ⟨cs, ca, cb, h1, h2, h3, rfl⟩ := h
  intro x hx
  rcases List.mem_cons.1 hx with e | e
  · cases d <;> simp at e <;> omega
  rcases List.mem_append.1 e with e | e
  · exact h1.digs x e
  rcases List.mem_append.1 e with e | e
  · exact h2.digs x e
  rcases List.mem_append.1 e with e | e
  · exact h3.digs x e
  · exact hb x e
theorem IsEnc.digs {d : Bool} {s a : Int} {body ys : List Int} (h : IsEnc d s a body ys) (hb : Digs 256 body) : Digs 256 ys := by
  obtain ⟨m, h1, rfl⟩ := h
  intro x hx
  rcases List.mem_append.1 hx with e | e
  · exact h1.digs hb x e
  · exact be4_digs _ x e
theorem IsHead.len {d : Bool} {s a : Int} {body m : List Int} (h : IsHead d s a body m) (hr : rightFr d s a body.length = true) : m.length ≤ body.length + 31 ∧ 4 ≤ m.length := by
  obtain ⟨x1, x2, x3, x4, x5, _⟩ := (rightFr_iff _ _ _ _).1 hr
  obtain ⟨cs, ca, cb, h1, h2, h3, rfl⟩ := h
  have l1 := code_10 h1 (by omega)
  have l2 := code_10 h2 (by omega)
  have l3 := code_10 h3 (by omega)
  have n1 := List.length_pos_iff.2 h1.nonempty
  have n2 := List.length_pos_iff.2 h2.nonempty
  have n3 := List.length_pos_iff.2 h3.nonempty
  simp
  omega

/-- What is told of a frame's bytes. -/
def ResEnc (d : Bool) (s a : Int) (body ys : List Int) (err : Int) : Prop := (rightFr d s a body.length = true ∧ IsEnc d s a body ys ∧ err = 0) ∨ (rightFr d s a body.length = false ∧ ys = [] ∧ err = 1)
theorem ResEnc.unique {d : Bool} {s a : Int} {body ys ys' : List Int} {err err' : Int} (h : ResEnc d s a body ys err) (h' : ResEnc d s a body ys' err') : ys = ys' ∧ err = err' := by
  rcases h with ⟨h1, h2, rfl⟩ | ⟨h1, rfl, rfl⟩ <;> rcases h' with ⟨k1, k2, rfl⟩ | ⟨k1, rfl, rfl⟩
  · exact ⟨h2.unique k2, rfl⟩
  · rw [h1] at k1; cases k1
  · rw [h1] at k1; cases k1
  · exact ⟨rfl, rfl⟩
/-- What is told of the frame that bytes are. -/
def ResDec (L : List Int) (d : Bool) (s a : Int) (body : List Int) (err : Int) : Prop :=
  (rightFr d s a body.length = true ∧ IsEnc d s a body L ∧ err = 0) ∨ ((∀ d s a body, rightFr d s a body.length = true → ¬ IsEnc d s a body L) ∧ (d = false ∧ s = 0 ∧ a = 0 ∧ body = []) ∧ err = 14)
theorem ResDec.unique {L : List Int} {d d' : Bool} {s s' a a' : Int} {body body' : List Int} {err err' : Int} (h : ResDec L d s a body err) (h' : ResDec L d' s' a' body' err') : (d = d' ∧ s = s' ∧ a = a' ∧ body = body') ∧ err = err' := by
  rcases h with ⟨h1, h2, rfl⟩ | ⟨h1, ⟨rfl, rfl, rfl, rfl⟩, rfl⟩ <;> rcases h' with ⟨k1, k2, rfl⟩ | ⟨k1, ⟨rfl, rfl, rfl, rfl⟩, rfl⟩
  · exact ⟨h2.inj k2 h1 k1, rfl⟩
  · exact absurd h2 (k1 _ _ _ _ h1)
  · exact absurd k2 (h1 _ _ _ _ k1)
  · exact ⟨⟨rfl, rfl, rfl, rfl⟩, rfl⟩
/-- One byte of a frame's is another one: it is no frame's. -/
theorem enc_turned {d d' : Bool} {s s' a a' : Int} {body body' xs ys : List Int} {x y : Int} (h : IsEnc d s a body (xs ++ x :: ys)) (h' : IsEnc d' s' a' body' (xs ++ y :: ys)) (hb : Digs 256 body) (hb' : Digs 256 body') : x = y := by
  have dg := h.digs hb
  have dg' := h'.digs hb'
  have hx : 0 ≤ x ∧ x < 256 := dg x (by simp)
  have hy : 0 ≤ y ∧ y < 256 := dg' y (by simp)
  have dxs : Digs 256 xs := fun z hz => dg z (by simp [hz])
  have dys : Digs 256 ys := fun z hz => dg z (by simp [hz])
  obtain ⟨m, h1, e⟩ := h
  obtain ⟨m', h2, e'⟩ := h'
  have dm := h1.digs hb
  have dm' := h2.digs hb'
  have l1 : (xs ++ x :: ys).length = m.length + 4 := by rw [e]; simp [be4]
  have l2 : (xs ++ y :: ys).length = m'.length + 4 := by rw [e']; simp [be4]
  have hlen : m.length = m'.length := by simp at l1 l2; omega
  by_cases c : xs.length < m.length
  · -- the byte lies ahead of the sum
    obtain ⟨t, ht⟩ : ∃ t, m = xs ++ x :: t ∧ ys = t ++ be4 (sumC m) := by
      have h3 : xs <+: m := by
        have p1 : xs <+: m ++ be4 (sumC m) := by rw [← e]; exact List.prefix_append _ _
        exact List.prefix_of_prefix_length_le p1 (List.prefix_append _ _) (by omega)
      obtain ⟨u, rfl⟩ := h3
      rw [List.append_assoc] at e
      have e2 := List.append_cancel_left e
      cases u with
      | nil => simp at c
      | cons z u =>
        have e3 := List.cons.inj e2
        exact ⟨u, by rw [e3.1], e3.2⟩
    obtain ⟨hm, hys⟩ := ht
    have e4 : m' ++ be4 (sumC m') = (xs ++ y :: t) ++ be4 (sumC m) := by rw [← e', hys]; simp
    obtain ⟨hm', hs⟩ := enc_split e4
    have hs2 := be4_inj (sumC_lt dm') (sumC_lt dm) hs
    rw [hm, hm'] at hs2
    have dt : Digs 256 t := fun z hz => dm z (by rw [hm]; simp [hz])
    exact (sumC_turned dxs dt hy hx hs2).symm
  · -- the byte lies in the sum
    have hmm : m = m' := by
      have p1 : m <+: xs := by
        have q1 : m <+: xs ++ x :: ys := by rw [e]; exact List.prefix_append _ _
        exact List.prefix_of_prefix_length_le q1 (List.prefix_append _ _) (by omega)
      have p2 : m' <+: xs := by
        have q1 : m' <+: xs ++ y :: ys := by rw [e']; exact List.prefix_append _ _
        exact List.prefix_of_prefix_length_le q1 (List.prefix_append _ _) (by omega)
      obtain ⟨u, hu⟩ := p1
      obtain ⟨u', hu'⟩ := p2
      exact (List.append_inj (hu.trans hu'.symm) hlen).1
    subst hmm
    have := e.trans e'.symm
    have := List.append_cancel_left this
    exact (List.cons.inj this).1
end Go.Proofs.Ytpoipobmkfphcaa
