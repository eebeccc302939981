/-
  Whole numbers as sign and limbs; what is told of whole numbers by a modulus, and of two in one.
  What was encoded, or packed, is told again; sums of packs are packs of sums.
  The contract of stage 7's few, for one list of limbs up to four.
  What stage 7's laws ask of the program's functions; the contract of awake.
-/
import Derived.Test.YtchmlfjjgehbkaaP6A
import Derived.Test.YtchmlfjjgehbkaaModA
import Derived.Test.YtchmlfjjgehbkaaNatC
import Derived.Test.YtchmlfjjgehbkaaNatA
import Derived.Laws.NewBlocks
namespace Go.Proofs.Ytchmlfjjgehbkaa
open Go.RowKit

/-- The sign and the limbs are the whole number x. -/
def IsW (n : Bool) (zs : List Int) (x : Int) : Prop := Digs 18446744073709551616 zs ∧ rightI n zs = true ∧ iv n zs = x
theorem rightI_iff (n : Bool) (zs : List Int) : rightI n zs = true ↔ rightB zs = true ∧ (n = true → zs.length ≠ 0) := by
  unfold rightI
  cases n <;> simp
theorem IsW.right {n : Bool} {zs : List Int} {x : Int} (h : IsW n zs x) : rightB zs = true := ((rightI_iff n zs).1 h.2.1).1
theorem IsW.self {n : Bool} {zs : List Int} (hd : Digs 18446744073709551616 zs) (hr : rightI n zs = true) : IsW n zs (iv n zs) := ⟨hd, hr, rfl⟩
theorem nv_pos {zs : List Int} (hd : Digs 18446744073709551616 zs) (hr : rightB zs = true) : 0 < nv zs ↔ zs.length ≠ 0 := by
  have h := val_zero_iff hd (right_top hr)
  rw [nv_val hd] at h
  omega
theorem IsW.sign {n : Bool} {zs : List Int} {x : Int} (h : IsW n zs x) : n = decide (x < 0) := by
  obtain ⟨hd, hr, rfl⟩ := h
  obtain ⟨h1, h2⟩ := (rightI_iff n zs).1 hr
  have hp := nv_pos hd h1
  unfold iv
  rw [nv_val hd]
  cases n with
  | false => simp
  | true =>
    have := hp.2 (h2 rfl)
    simp; omega
theorem IsW.mag {n : Bool} {zs : List Int} {x : Int} (h : IsW n zs x) : IsN zs x.natAbs := by
  obtain ⟨hd, hr, rfl⟩ := h
  refine ⟨hd, ((rightI_iff n zs).1 hr).1, ?_⟩
  unfold iv
  rw [nv_val hd]
  cases n <;> simp
theorem IsW.unique {n m : Bool} {zs ys : List Int} {x : Int} (h : IsW n zs x) (h' : IsW m ys x) : n = m ∧ zs = ys :=
  ⟨h.sign.trans h'.sign.symm, h.mag.unique h'.mag⟩
theorem sz_abs (x : Int) : sz x = (x.natAbs : Int) := by unfold sz; split <;> omega
theorem IsW.mk {n : Bool} {zs : List Int} {x : Int} (h : IsN zs x.natAbs) (hs : n = decide (x < 0)) : IsW n zs x := by
  have hp := nv_pos h.1 h.2.1
  rw [h.nv] at hp
  subst hs
  refine ⟨h.1, (rightI_iff _ _).2 ⟨h.2.1, fun e => ?_⟩, ?_⟩
  · rw [decide_eq_true_eq] at e
    exact hp.1 (by omega)
  · unfold iv
    rw [h.2.2]
    by_cases e : x < 0
    · rw [decide_eq_true e, if_pos rfl]; omega
    · rw [decide_eq_false e]; simp; omega
theorem IsW.res {v : Int} {neg : Bool} {ls : List Int} {e : Int} (h : ResW v neg ls e) (hv : (v.natAbs : Int) < 18446744073709551616 ^ 64) : IsW neg ls v ∧ e = 0 := by
  obtain ⟨h1, h2⟩ := h
  rw [sz_abs] at h1
  obtain ⟨h3, rfl⟩ := IsN.res h1 hv
  exact ⟨IsW.mk h3 (by simpa using h2), rfl⟩
theorem IsW.of {x : Int} (h : -9223372036854775808 ≤ x ∧ x < 9223372036854775808) : IsW (decide (x < 0)) (ofZ (sz x)) x := by
  refine IsW.mk ?_ rfl
  rw [sz_abs]
  exact IsN.of (by omega)
theorem IsW.from {zs : List Int} {v : Nat} (h : IsN zs v) (n : Bool) : IsW (fromN n zs) (fromL zs) (if n then -(v : Int) else v) := by
  have e : fromL zs = zs := by simp [fromL, h.2.1]
  have hp := nv_pos h.1 h.2.1
  rw [h.nv] at hp
  unfold fromN
  rw [e]
  refine IsW.mk ?_ ?_
  · cases n
    · simpa using h
    · simpa using h
  · cases n
    · simp
    · simp only [Bool.true_and, if_true]
      rw [decide_eq_decide]
      omega
theorem cmpN_nat {xs ys : List Int} {x y : Nat} (h : IsN xs x) (h' : IsN ys y) : cmpN xs ys = cmpZ (x : Int) (y : Int) := by
  unfold cmpN; rw [h.2.1, h'.2.1, h.2.2, h'.2.2]; rfl
theorem cmpZ_le0 {x y : Int} : cmpZ x y ≤ 0 ↔ x ≤ y := by
  unfold cmpZ
  split <;> (try split) <;> omega
theorem cmpZ_lt0 {x y : Int} : cmpZ x y < 0 ↔ x < y := by
  unfold cmpZ
  split <;> (try split) <;> omega
theorem IsW.cmp {n m : Bool} {zs ys : List Int} {x y : Int} (h : IsW n zs x) (h' : IsW m ys y) : cmpI n zs m ys = cmpZ x y := by
  have hs := h.sign
  have hs' := h'.sign
  have hm := h.mag
  have hm' := h'.mag
  unfold cmpI
  rw [h.2.1, h'.2.1, if_pos (by rfl)]
  subst hs hs'
  by_cases e : x < 0 <;> by_cases e' : y < 0
  · rw [decide_eq_true e, decide_eq_true e', if_pos rfl, if_pos rfl, cmpN_nat hm' hm]
    unfold cmpZ
    split <;> split <;> (try split) <;> first | rfl | omega
  · rw [decide_eq_true e, decide_eq_false e', if_pos rfl, if_neg (by simp)]
    unfold cmpZ
    rw [if_pos (by omega)]
  · rw [decide_eq_false e, decide_eq_true e', if_neg (by simp), if_pos rfl]
    unfold cmpZ
    rw [if_neg (by omega), if_pos (by omega)]
  · rw [decide_eq_false e, decide_eq_false e', if_neg (by simp), if_neg (by simp), cmpN_nat hm hm']
    unfold cmpZ
    split <;> split <;> (try split) <;> first | rfl | omega

theorem word_of_wfS {x : Int} (h : (Lit.int .i64 x).wf = true) : -9223372036854775808 ≤ x ∧ x < 9223372036854775808 := by
  simp [Lit.wf, IntKind.min, IntKind.max, IntKind.signed, IntKind.bits] at h
  omega
/-- A number that is told by 64 bits with a sign. -/
def fitB (x : Int) : Bool := decide (-9223372036854775808 ≤ x) && decide (x < 9223372036854775808)
theorem fitB_iff (x : Int) : fitB x = true ↔ -9223372036854775808 ≤ x ∧ x < 9223372036854775808 := by simp [fitB]
theorem limb_one {zs : List Int} {v : Nat} (h : IsN zs v) (hl : zs.length ≤ 1) : smallZ zs = (v : Int) := by
  have hv := h.2.2
  have hr := h.2.1
  match zs, hl with
  | [], _ => simp [val] at hv; simp [smallZ, hv]
  | [z], _ =>
    unfold smallZ
    rw [hr]
    simp [val] at hv
    simp [hv]
theorem limb_two {zs : List Int} {v : Nat} (h : IsN zs v) (hl : ¬ zs.length ≤ 1) : 18446744073709551616 ≤ v := by
  rcases Nat.lt_or_ge v 18446744073709551616 with e | e
  · exact absurd (h.len (k := 1) (by rw [Int.pow_one]; omega)) hl
  · exact e
theorem IsW.small {n : Bool} {zs : List Int} {x : Int} (h : IsW n zs x) : ismB n zs = fitB x ∧ (fitB x = true → ismZ n zs = x) := by
  have hs := h.sign
  have hm := h.mag
  have e1 : ismB n zs = fitB x := by
    unfold ismB
    rw [h.2.1, Bool.true_and]
    by_cases hl : zs.length ≤ 1
    · rw [decide_eq_true hl, Bool.true_and, limb_one hm hl]
      subst hs
      by_cases e : x < 0
      · rw [decide_eq_true e, if_pos rfl]
        unfold fitB
        rw [decide_eq_true (show x < 9223372036854775808 by omega), Bool.and_true, decide_eq_decide]
        omega
      · rw [decide_eq_false e, if_neg (by simp)]
        unfold fitB
        rw [decide_eq_true (show -9223372036854775808 ≤ x by omega), Bool.true_and, decide_eq_decide]
        omega
    · rw [decide_eq_false hl, Bool.false_and]
      have := limb_two hm hl
      unfold fitB
      by_cases e : x < 0
      · rw [decide_eq_false (show ¬ -9223372036854775808 ≤ x by omega)]; rfl
      · rw [decide_eq_false (show ¬ x < 9223372036854775808 by omega), Bool.and_false]
  refine ⟨e1, fun hf => ?_⟩
  unfold ismZ
  rw [e1, if_pos hf]
  obtain ⟨f1, f2⟩ := (fitB_iff x).1 hf
  have hl : zs.length ≤ 1 := hm.len (k := 1) (by rw [Int.pow_one]; omega)
  rw [limb_one hm hl]
  subst hs
  by_cases e : x < 0
  · rw [decide_eq_true e, if_pos rfl]; omega
  · rw [decide_eq_false e, if_neg (by simp)]; omega

/-- n may be a modulus; its half. -/
def modB (ns : List Int) : Bool := rightB ns && (decide (ns.length ≤ 8) && decide (3 ≤ nv ns))
def hlf (n : Nat) : Nat := (n - 1) / 2
theorem modB_iff (ns : List Int) : modB ns = true ↔ rightB ns = true ∧ ns.length ≤ 8 ∧ 3 ≤ nv ns := by simp [modB]
theorem mod_bd {ns : List Int} (hd : Digs 18446744073709551616 ns) (h : modB ns = true) : (nv ns : Int) < 18446744073709551616 ^ 8 := by
  obtain ⟨h1, h2, h3⟩ := (modB_iff ns).1 h
  rw [← nv_val hd]
  exact Int.lt_of_lt_of_le (val_lt_pow (by decide) hd (Nat.le_refl _)) (pow_mono (by decide) h2)

/-- The faults of a whole number by a modulus, and its code. -/
def codF (ns : List Int) (n : Bool) (zs : List Int) : Option Int := if modB ns && rightI n zs then (if (iv n zs).natAbs ≤ hlf (nv ns) then none else some 12) else some 1
def codV (m : Nat) (x : Int) : Nat := (if x < 0 then (m : Int) + x else x).toNat
def dcF (ns vs : List Int) : Option Int := if modB ns then (if rightB vs && decide (nv vs < nv ns) then none else some 10) else some 1
def dcV (m v : Nat) : Int := if v ≤ hlf m then (v : Int) else (v : Int) - (m : Int)
/-- What is told: a fault's number, or a whole number. -/
def ToldW (f : Option Int) (x : Int) (neg : Bool) (ls : List Int) (err : Int) : Prop := (∃ e, f = some e ∧ neg = false ∧ ls = [] ∧ err = e) ∨ (f = none ∧ IsW neg ls x ∧ err = 0)
theorem ToldW.unique {f : Option Int} {x : Int} {p q : Bool} {ls ks : List Int} {e e' : Int} (h : ToldW f x p ls e) (h' : ToldW f x q ks e') : p = q ∧ ls = ks ∧ e = e' := by
  rcases h with ⟨x, rfl, rfl, rfl, rfl⟩ | ⟨rfl, h, rfl⟩ <;> rcases h' with ⟨y, hy, rfl, rfl, rfl⟩ | ⟨hy, h', rfl⟩
  · cases hy; exact ⟨rfl, rfl, rfl⟩
  · cases hy
  · cases hy
  · obtain ⟨rfl, rfl⟩ := h.unique h'
    exact ⟨rfl, rfl, rfl⟩
theorem ToldW.bad {f : Option Int} {x e : Int} (h : f = some e) : ToldW f x false [] e := .inl ⟨e, h, rfl, rfl, rfl⟩
theorem ToldW.good {f : Option Int} {x : Int} {neg : Bool} {ls : List Int} (h : f = none) (h' : IsW neg ls x) : ToldW f x neg ls 0 := .inr ⟨h, h', rfl⟩

/-- What is told of two numbers in one, of the two that one tells, and of how far the first one is moved. -/
def shB (s : Int) : Bool := decide (1 ≤ s) && decide (s ≤ 62)
theorem shB_iff (s : Int) : shB s = true ↔ 1 ≤ s ∧ s ≤ 62 := by simp [shB]
def pkX (s g h : Int) : Int := g * 2 ^ s.toNat + h
def pkF (ns : List Int) (s g h : Int) : Option Int := if modB ns && shB s then (if decide (0 ≤ h) && decide (h < 2 ^ s.toNat) then (if (pkX s g h).natAbs ≤ hlf (nv ns) then none else some 12) else some 12) else some 1
def upF (ns : List Int) (s : Int) (vs : List Int) : Option Int := if modB ns && shB s then (match dcF ns vs with
  | some e => some e
  | none => if fitB (dcV (nv ns) (nv vs) / 2 ^ s.toNat) then none else some 12) else some 1
def upG (ns : List Int) (s : Int) (vs : List Int) : Int := dcV (nv ns) (nv vs) / 2 ^ s.toNat
def upH (ns : List Int) (s : Int) (vs : List Int) : Int := dcV (nv ns) (nv vs) % 2 ^ s.toNat
/-- The two that are told, or a fault. -/
def Told2 (f : Option Int) (g h : Int) (x y err : Int) : Prop := (∃ e, f = some e ∧ x = 0 ∧ y = 0 ∧ err = e) ∨ (f = none ∧ x = g ∧ y = h ∧ err = 0)
theorem Told2.unique {f : Option Int} {g h x y e x' y' e' : Int} (k : Told2 f g h x y e) (k' : Told2 f g h x' y' e') : x = x' ∧ y = y' ∧ e = e' := by
  rcases k with ⟨z, rfl, rfl, rfl, rfl⟩ | ⟨rfl, rfl, rfl, rfl⟩ <;> rcases k' with ⟨z', hz, rfl, rfl, rfl⟩ | ⟨hz, rfl, rfl, rfl⟩
  · cases hz; exact ⟨rfl, rfl, rfl⟩
  · cases hz
  · cases hz
  · exact ⟨rfl, rfl, rfl⟩
def roomB (ns : List Int) (r m k : Int) : Bool := modB ns && (decide (1 ≤ r) && (decide (1 ≤ m) && decide (1 ≤ k)))
/-- t is the least shift that the second ones' sum wants. -/
def LeastT (r k : Int) (t : Nat) : Prop := 1 ≤ t ∧ r * k < 2 ^ t ∧ ∀ j : Nat, 1 ≤ j → j < t → 2 ^ j ≤ r * k
theorem LeastT.unique {r k : Int} {t u : Nat} (h : LeastT r k t) (h' : LeastT r k u) : t = u := by
  rcases Nat.lt_trichotomy t u with e | e | e
  · have := h'.2.2 t h.1 e
    have := h.2.1
    omega
  · exact e
  · have := h.2.2 u h'.1 e
    have := h'.2.1
    omega
/-- What is told of the room. -/
def ResRoom (ns : List Int) (r m k s err : Int) : Prop :=
  (roomB ns r m k = false ∧ s = 0 ∧ err = 1) ∨ (roomB ns r m k = true ∧ ∃ t : Nat, t ≤ 62 ∧ LeastT r k t ∧ r * m * 2 ^ t + 2 ^ t - 1 ≤ (hlf (nv ns) : Int) ∧ s = (t : Int) ∧ err = 0) ∨
    (roomB ns r m k = true ∧ (∀ t : Nat, t ≤ 62 → LeastT r k t → ¬ r * m * 2 ^ t + 2 ^ t - 1 ≤ (hlf (nv ns) : Int)) ∧ s = 0 ∧ err = 12)
theorem ResRoom.unique {ns : List Int} {r m k s e s' e' : Int} (h : ResRoom ns r m k s e) (h' : ResRoom ns r m k s' e') : s = s' ∧ e = e' := by
  rcases h with ⟨a, rfl, rfl⟩ | ⟨a, t, t1, t2, t3, rfl, rfl⟩ | ⟨a, b, rfl, rfl⟩ <;> rcases h' with ⟨a', rfl, rfl⟩ | ⟨a', u, u1, u2, u3, rfl, rfl⟩ | ⟨a', b', rfl, rfl⟩
  · exact ⟨rfl, rfl⟩
  · rw [a] at a'; cases a'
  · rw [a] at a'; cases a'
  · rw [a] at a'; cases a'
  · obtain rfl := t2.unique u2; exact ⟨rfl, rfl⟩
  · exact absurd t3 (b' t t1 t2)
  · rw [a] at a'; cases a'
  · exact absurd u3 (b u u1 u2)
  · exact ⟨rfl, rfl⟩

/-- There and back. -/
theorem cod_back {m : Nat} {x : Int} (h3 : 3 ≤ m) (hx : x.natAbs ≤ hlf m) : codV m x < m ∧ dcV m (codV m x) = x := by
  unfold hlf at hx
  unfold codV dcV hlf
  split
  · have e : ((m : Int) + x).toNat = m - x.natAbs := by omega
    rw [e, if_neg (by omega)]
    omega
  · have e : x.toNat = x.natAbs := by omega
    rw [e, if_pos (by omega)]
    omega
theorem cod_mod {m : Nat} {x : Int} (h3 : 3 ≤ m) (hx : x.natAbs ≤ hlf m) : (codV m x : Int) = x % (m : Int) := by
  unfold hlf at hx
  unfold codV
  split
  · rename_i e
    have h1 : x % (m : Int) = (x + (m : Int)) % (m : Int) := by rw [Int.add_emod_right]
    rw [h1, Int.emod_eq_of_lt (by omega) (by omega)]
    omega
  · rw [Int.emod_eq_of_lt (by omega) (by omega)]
    omega
/-- What a call that tells a number makes. -/
def TellsN (v : Nat) (w : World) (e : Ending) (w' : World) : Prop := ∃ a l c ls, e = .returned (.slice a l c) ∧ Nums w' a l c ls ∧ IsN ls v ∧ Below w.heap.size w w'
/-- What a call that tells a whole number makes. -/
def TellsW (x : Int) (w : World) (e : Ending) (w' : World) : Prop := ∃ n a l c ls, e = .returned (.agg #[.bool n, .slice a l c]) ∧ Nums w' a l c ls ∧ IsW n ls x ∧ Below w.heap.size w w'
theorem one_isN : IsN (ofZ 1) 1 := ⟨fun y hy => by simp [ofZ] at hy; subst hy; decide, by decide, by decide⟩
theorem three_isN : IsN (ofZ 3) 3 := ⟨fun y hy => by simp [ofZ] at hy; subst hy; decide, by decide, by decide⟩
theorem isN_64 {ls : List Int} {v : Nat} (h : IsN ls v) : (v : Int) < 18446744073709551616 ^ 64 := by rw [← h.2.2]; exact val_64 h.1 h.2.1
theorem sub_isN {zs ys ls : List Int} {x y : Nat} {e : Int} (hz : IsN zs x) (hy : IsN ys y) (hle : y ≤ x) (h : ResSub zs ys ls e) : IsN ls (x - y) ∧ e = 0 := by
  obtain ⟨rfl, h2⟩ := h.got hz.1 hy.1 hz.2.1 hy.2.1 (by rw [hz.2.2, hy.2.2]; omega)
  rw [hz.2.2, hy.2.2, ← Int.ofNat_sub hle] at h2
  have := isN_64 hz
  exact IsN.res h2 (by omega)

theorem cod_true {ns : List Int} {m : Bool} {zs : List Int} (hm : modB ns = true) (hr : rightI m zs = true) : codF ns m zs = if (iv m zs).natAbs ≤ hlf (nv ns) then none else some 12 := by
  unfold codF; rw [hm, hr]; rfl

/-- What a call that tells a whole number or a fault makes. -/
def TripW (f : Option Int) (x : Int) (w : World) (e : Ending) (w' : World) : Prop := ∃ n a l c ls err, e = .returned (.tuple #[.agg #[.bool n, .slice a l c], .int .i64 err]) ∧ Nums w' a l c ls ∧ ToldW f x n ls err ∧ Below w.heap.size w w'

theorem pow62 {s : Int} (h : 0 ≤ s ∧ s ≤ 62) : (1 : Int) ≤ 2 ^ s.toNat ∧ (2 : Int) ^ s.toNat ≤ 4611686018427387904 := by
  have h1 : 2 ^ s.toNat ≤ 2 ^ 62 := Nat.pow_le_pow_right (by omega) (by omega)
  have h2 : 0 < 2 ^ s.toNat := Nat.pow_pos (by omega)
  have e : (2 : Int) ^ s.toNat = ((2 ^ s.toNat : Nat) : Int) := by rw [Int.natCast_pow]; rfl
  rw [e]
  omega
theorem prod_abs {x y a b : Int} (hx : -a ≤ x ∧ x ≤ a) (hy : -b ≤ y ∧ y ≤ b) (ha : 0 ≤ a) : ((x * y).natAbs : Int) ≤ a * b := by
  rw [Int.natAbs_mul, Int.natCast_mul]
  exact Int.mul_le_mul (by omega) (by omega) (by omega) ha

theorem put2_here {w : World} {g : Nat} {p q : Value} (c0 : w.cell? ⟨g, 0, none⟩ = some p) (c1 : w.cell? ⟨g, 1, none⟩ = some q) (x y : Value) :
    ((w.setCell ⟨g, 0, none⟩ x).setCell ⟨g, 1, none⟩ y).cell? ⟨g, 0, none⟩ = some x ∧ ((w.setCell ⟨g, 0, none⟩ x).setCell ⟨g, 1, none⟩ y).cell? ⟨g, 1, none⟩ = some y := by
  constructor
  · rw [World.cell?_setCell_other]
    · exact World.cell?_setCell_same _ _ _ c0
    · simp
  · refine World.cell?_setCell_same (u := q) _ _ _ ?_
    rw [World.cell?_setCell_other]
    · exact c1
    · simp

theorem pk_true {ns : List Int} {s g h : Int} (hm : modB ns = true) (hs : shB s = true) (h0 : 0 ≤ h) (h1 : h < 2 ^ s.toNat) : pkF ns s g h = if (pkX s g h).natAbs ≤ hlf (nv ns) then none else some 12 := by
  unfold pkF
  rw [hm, hs, decide_eq_true h0, decide_eq_true h1]
  rfl
theorem cod_pk {ns : List Int} {s g h : Int} {n : Bool} {zs : List Int} (hm : modB ns = true) (hs : shB s = true) (h0 : 0 ≤ h) (h1 : h < 2 ^ s.toNat) (hW : IsW n zs (pkX s g h)) : codF ns n zs = pkF ns s g h := by
  rw [pk_true hm hs h0 h1, cod_true hm hW.2.1, hW.2.2]

/-- What a call that tells two numbers or a fault makes. -/
def PairT7 (f : Option Int) (g h : Int) (w : World) (e : Ending) (w' : World) : Prop := ∃ x y err, e = .returned (.tuple #[.int .i64 x, .int .i64 y, .int .i64 err]) ∧ Told2 f g h x y err ∧ Below w.heap.size w w'

theorem dcF_ne {ns vs : List Int} {e : Int} (h : dcF ns vs = some e) : e ≠ 0 := by
  unfold dcF at h
  split at h
  · split at h
    · cases h
    · cases h; decide
  · cases h; decide
theorem up_bad {ns vs : List Int} {s e : Int} (hm : modB ns = true) (hs : shB s = true) (h : dcF ns vs = some e) : upF ns s vs = some e := by
  unfold upF
  rw [hm, hs, h]
  rfl
theorem up_good {ns vs : List Int} {s : Int} (hm : modB ns = true) (hs : shB s = true) (h : dcF ns vs = none) : upF ns s vs = if fitB (upG ns s vs) then none else some 12 := by
  unfold upF
  rw [hm, hs, h]
  rfl

/-- What is told of a quotient and a rest by a number above 0. -/
theorem floor_isW {n m p r : Bool} {zs ys qs rs : List Int} {x y err : Int} (h : IsW n zs x) (h' : IsW m ys y) (hy : 0 < y) (hb : (x.natAbs : Int) < 18446744073709551616 ^ 63) (hF : ResFloor n zs m ys p qs r rs err) : err = 0 ∧ IsW p qs (x / y) ∧ IsW r rs (x % y) := by
  have hs : m = false := by rw [h'.sign]; exact decide_eq_false (by omega)
  have hl : ys.length ≠ 0 := by
    have hm := h'.mag
    have := nv_pos hm.1 hm.2.1
    rw [hm.nv] at this
    exact this.1 (by omega)
  have hv : val 18446744073709551616 ys = y := by
    have := h'.2.2
    rw [hs] at this
    simpa [iv] using this
  have h64 := isN_64 h'.mag
  unfold ResFloor at hF
  rw [h.2.1, h'.2.1, if_pos (by rfl), if_neg hl, hs, if_neg (by simp), h.2.2, hv] at hF
  obtain ⟨e0, h1, h2⟩ := hF
  have hq : ((x / y).natAbs : Int) ≤ (x.natAbs : Int) + 1 := by
    have := Int.natAbs_ediv_le_natAbs x y
    omega
  have hbig : (18446744073709551616 : Int) ^ 63 + 1 < 18446744073709551616 ^ 64 := by decide
  have hr : ((x % y).natAbs : Int) < (y.natAbs : Int) := by
    have d2 := Int.emod_nonneg x (show y ≠ 0 by omega)
    have d3 := Int.emod_lt_of_pos x hy
    omega
  exact ⟨e0, (IsW.res h1 (by omega)).1, (IsW.res h2 (by omega)).1⟩

/-- What a call tells of the room. -/
def RoomT (ns : List Int) (r m k : Int) (w : World) (e : Ending) (w' : World) : Prop := ∃ s err, e = .returned (.tuple #[.int .i64 s, .int .i64 err]) ∧ ResRoom ns r m k s err ∧ Below w.heap.size w w'

theorem room_no {ns : List Int} {r m k : Int} (h : roomB ns r m k = false) : ResRoom ns r m k 0 1 := .inl ⟨h, rfl, rfl⟩
theorem room_over {ns : List Int} {r m k : Int} (h : roomB ns r m k = true) (hj : ∀ j : Nat, 1 ≤ j → j < 63 → (2 : Int) ^ j ≤ r * k) : ResRoom ns r m k 0 12 :=
  .inr (.inr ⟨h, fun t ht hL => absurd hL.2.1 (by have := hj t hL.1 (by omega); omega), rfl, rfl⟩)
theorem room_full {ns : List Int} {r m k : Int} {t : Nat} (h : roomB ns r m k = true) (hL : LeastT r k t) (hf : ¬ r * m * 2 ^ t + 2 ^ t - 1 ≤ (hlf (nv ns) : Int)) : ResRoom ns r m k 0 12 :=
  .inr (.inr ⟨h, fun u _ hU => by obtain rfl := hL.unique hU; exact hf, rfl, rfl⟩)
theorem room_yes {ns : List Int} {r m k : Int} {t : Nat} (h : roomB ns r m k = true) (h62 : t ≤ 62) (hL : LeastT r k t) (hf : r * m * 2 ^ t + 2 ^ t - 1 ≤ (hlf (nv ns) : Int)) : ResRoom ns r m k (t : Int) 0 :=
  .inr (.inl ⟨h, t, h62, hL, hf, rfl, rfl⟩)
end Go.Proofs.Ytchmlfjjgehbkaa

namespace Go.Proofs.Ytchmlfjjgehbkaa
open Go.RowKit

theorem cod_none {ns : List Int} {m : Bool} {zs : List Int} (h : codF ns m zs = none) : modB ns = true ∧ rightI m zs = true ∧ (iv m zs).natAbs ≤ hlf (nv ns) := by
  unfold codF at h
  split at h
  · rename_i hc
    rw [Bool.and_eq_true] at hc
    split at h
    · exact ⟨hc.1, hc.2, by assumption⟩
    · cases h
  · cases h
theorem pk_none {ns : List Int} {s g h : Int} (hf : pkF ns s g h = none) : modB ns = true ∧ shB s = true ∧ 0 ≤ h ∧ h < 2 ^ s.toNat ∧ (pkX s g h).natAbs ≤ hlf (nv ns) := by
  unfold pkF at hf
  split at hf
  · rename_i hc
    rw [Bool.and_eq_true] at hc
    split at hf
    · rename_i hd
      rw [Bool.and_eq_true, decide_eq_true_eq, decide_eq_true_eq] at hd
      split at hf
      · exact ⟨hc.1, hc.2, hd.1, hd.2, by assumption⟩
      · cases hf
    · cases hf
  · cases hf
theorem codF_ne0 {ns : List Int} {m : Bool} {zs : List Int} {e : Int} (h : codF ns m zs = some e) : e ≠ 0 := by
  unfold codF at h
  split at h
  · split at h
    · cases h
    · cases h; decide
  · cases h; decide
theorem pkF_ne0 {ns : List Int} {s g h e : Int} (hf : pkF ns s g h = some e) : e ≠ 0 := by
  unfold pkF at hf
  split at hf
  · split at hf
    · split at hf
      · cases hf
      · cases hf; decide
    · cases hf; decide
  · cases hf; decide
theorem two_split {P g h : Int} (h0 : 0 ≤ h) (h1 : h < P) : (g * P + h) / P = g ∧ (g * P + h) % P = h := by
  have hP : P ≠ 0 := by omega
  rw [Int.add_comm, Int.add_mul_ediv_right _ _ hP, Int.add_mul_emod_self_right, Int.ediv_eq_zero_of_lt h0 h1, Int.emod_eq_of_lt h0 h1]
  omega
/-- What a code tells. -/
theorem code_dc {ns vs : List Int} {x : Int} (hm : modB ns = true) (hx : x.natAbs ≤ hlf (nv ns)) (hv : IsN vs (codV (nv ns) x)) : dcF ns vs = none ∧ dcV (nv ns) (nv vs) = x := by
  obtain ⟨h1, h2⟩ := cod_back ((modB_iff ns).1 hm).2.2 hx
  rw [hv.nv]
  refine ⟨?_, h2⟩
  unfold dcF
  rw [hm, hv.2.1, hv.nv, decide_eq_true h1]
  rfl
/-- What a pack tells. -/
theorem up_of {ns vs : List Int} {s g h : Int} (hm : modB ns = true) (hs : shB s = true) (h0 : 0 ≤ h) (h1 : h < 2 ^ s.toNat) (hx : (pkX s g h).natAbs ≤ hlf (nv ns)) (hg : fitB g = true) (hv : IsN vs (codV (nv ns) (pkX s g h))) : upF ns s vs = none ∧ upG ns s vs = g ∧ upH ns s vs = h := by
  obtain ⟨e1, e2⟩ := code_dc hm hx hv
  obtain ⟨d1, d2⟩ := two_split (P := 2 ^ s.toNat) (g := g) (h := h) h0 h1
  have eG : upG ns s vs = g := by unfold upG; rw [e2]; exact d1
  refine ⟨?_, eG, by unfold upH; rw [e2]; exact d2⟩
  rw [up_good hm hs e1, eG, hg]
  rfl

/-- What stands while packs are added: so many, their sums, and the sum of the packs by n. -/
structure Run7 (n : Nat) (P m k : Int) (i : Nat) (G H : Int) (S : Nat) : Prop where
  g : -((i : Int) * m) ≤ G ∧ G ≤ (i : Int) * m
  h : 0 ≤ H ∧ H ≤ (i : Int) * k
  s : (S : Int) = (G * P + H) % (n : Int)
theorem Run7.start (n : Nat) (P m k : Int) : Run7 n P m k 0 0 0 0 := ⟨by simp, by simp, by simp⟩
theorem Run7.step {n : Nat} {P m k : Int} {i : Nat} {G H : Int} {S p : Nat} {x y : Int} (h : Run7 n P m k i G H S) (hx : -m ≤ x ∧ x ≤ m) (hy : 0 ≤ y ∧ y ≤ k) (hp : (p : Int) = (x * P + y) % (n : Int)) : Run7 n P m k (i + 1) (G + x) (H + y) ((S + p) % n) := by
  have e : ((i + 1 : Nat) : Int) = (i : Int) + 1 := by omega
  refine ⟨?_, ?_, ?_⟩
  · rw [e, Int.add_mul, Int.one_mul]; have := h.g; omega
  · rw [e, Int.add_mul, Int.one_mul]; have := h.h; omega
  · rw [Int.natCast_emod, Int.natCast_add, h.s, hp, ← Int.add_emod]
    congr 1
    rw [Int.add_mul]
    omega
theorem Run7.fits {n : Nat} {P m k r : Int} {i : Nat} {G H : Int} {S : Nat} (h : Run7 n P m k i G H S) (hi : (i : Int) ≤ r) (hm : 0 ≤ m) (hk : 0 ≤ k) (hP : r * k < P) (hf : r * m * P + P - 1 ≤ (hlf n : Int)) : (G * P + H).natAbs ≤ hlf n ∧ 0 ≤ H ∧ H < P := by
  have h1 : (i : Int) * m ≤ r * m := Int.mul_le_mul_of_nonneg_right hi hm
  have h2 : (i : Int) * k ≤ r * k := Int.mul_le_mul_of_nonneg_right hi hk
  have hg := h.g
  have hh := h.h
  have hP0 : 0 ≤ P := by omega
  have h3 : G * P ≤ r * m * P := Int.mul_le_mul_of_nonneg_right (by omega) hP0
  have h4 : -(r * m) * P ≤ G * P := Int.mul_le_mul_of_nonneg_right (by omega) hP0
  rw [Int.neg_mul] at h4
  omega

theorem Run7.small {n : Nat} {P m k : Int} {i : Nat} {G H : Int} {S : Nat} (h : Run7 n P m k i G H S) (hi : i ≤ 1000) (hm : 1 ≤ m) (hk : 1 ≤ k) (hb : 0 < i → m ≤ 1099511627776 ∧ k ≤ 1099511627776) : (-1099511627776000 ≤ G ∧ G ≤ 1099511627776000) ∧ 0 ≤ H ∧ H ≤ 1099511627776000 := by
  have hg := h.g
  have hh := h.h
  rcases Nat.eq_zero_or_pos i with e | e
  · subst e
    rw [Int.natCast_zero, Int.zero_mul] at hg hh
    omega
  · obtain ⟨h1, h2⟩ := hb e
    have b1 : (i : Int) * m ≤ 1000 * 1099511627776 := Int.mul_le_mul (by omega) h1 (by omega) (by decide)
    have b2 : (i : Int) * k ≤ 1000 * 1099511627776 := Int.mul_le_mul (by omega) h2 (by omega) (by decide)
    omega
theorem Run7.code {n : Nat} {P m k : Int} {i : Nat} {G H : Int} {S : Nat} (h : Run7 n P m k i G H S) (h3 : 3 ≤ n) (hf : (G * P + H).natAbs ≤ hlf n) : S = codV n (G * P + H) := by
  have := h.s
  rw [← cod_mod h3 hf] at this
  omega

theorem wrap_range7 (z : Int) : -9223372036854775808 ≤ IntKind.i64.wrap z ∧ IntKind.i64.wrap z < 9223372036854775808 := by
  have e : IntKind.i64.wrap z = if 9223372036854775808 ≤ z % 18446744073709551616 then z % 18446744073709551616 - 18446744073709551616 else z % 18446744073709551616 := by simp [IntKind.wrap, IntKind.signed, IntKind.bits]
  rw [e]
  split <;> omega
theorem and_range7 (x y : Int) : -9223372036854775808 ≤ bits .and .i64 x y ∧ bits .and .i64 x y < 9223372036854775808 := wrap_range7 _

/-- Pairs of whole numbers lie in memory. -/
def PairsAt (w : World) (a : Option Addr) (len cap : Nat) : Prop := len ≤ cap ∧ cap ≤ maxLen ∧ ∀ i, i < len → ∃ b off x y, a = some ⟨b, off, none⟩ ∧ w.cell? ⟨b, off + i * 2, none⟩ = some (.int .i64 x) ∧ w.cell? ⟨b, off + i * 2 + 1, none⟩ = some (.int .i64 y) ∧ (Lit.int .i64 x).wf = true ∧ (Lit.int .i64 y).wf = true
theorem PairsAt.below {w w' : World} {a : Option Addr} {len cap : Nat} (h : PairsAt w a len cap) (hb : Below w.heap.size w w') : PairsAt w' a len cap := by
  refine ⟨h.1, h.2.1, fun i hi => ?_⟩
  obtain ⟨b, off, x, y, e, h0, h1, f0, f1⟩ := h.2.2 i hi
  exact ⟨b, off, x, y, e, bkeep hb h0 rfl, bkeep hb h1 rfl, f0, f1⟩
end Go.Proofs.Ytchmlfjjgehbkaa

namespace Go.Proofs.Ytchmlfjjgehbkaa
open Go.RowKit

end Go.Proofs.Ytchmlfjjgehbkaa

namespace Go.Proofs.Ytchmlfjjgehbkaa
open Go.RowKit

theorem awake7_told {ls : List Int} {err : Int} (h : Told (codF [101] true [1]) (codV (nv [101]) (iv true [1])) ls err) : ls = [100] ∧ err = 0 := by
  have hf : codF [101] true [1] = none := by decide +kernel
  have hv : codV (nv [101]) (iv true [1]) = 100 := by decide +kernel
  rw [hf, hv] at h
  rcases h with ⟨e, h, _⟩ | ⟨_, h, rfl⟩
  · cases h
  · exact ⟨h.unique ⟨fun y hy => by simp at hy; subst hy; decide, by decide, by simp [val]⟩, rfl⟩

end Go.Proofs.Ytchmlfjjgehbkaa
