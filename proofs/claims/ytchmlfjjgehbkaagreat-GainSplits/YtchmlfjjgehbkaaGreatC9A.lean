/-
  Codes of numbers as bytes: what they are, and that each is of one number alone.
  Bytes appended to a row of the call's own, however many.
  Contracts of the document's Number, zigzag, Int and Bytes (codec).
  What stage 9's laws ask of the program's functions that make codes.
  What is read of bytes: the answers, each of one number alone.
-/
import Derived.Test.YtchmlfjjgehbkaaGreatBytA
import Derived.Test.YtchmlfjjgehbkaaGreatTapeP
import Derived.Test.YtchmlfjjgehbkaaGreatBytB
namespace Go.Proofs.YtchmlfjjgehbkaaGreat
open Go.RowKit

/-- The bytes c are the code of m: digits of base 128, the lowest first, to all but the last one 128 is added. -/
def IsCode : List Int → Nat → Prop
  | [], _ => False
  | [b], m => b = (m : Int) ∧ m < 128
  | b :: d :: c, m => b = ((m % 128 : Nat) : Int) + 128 ∧ 0 < m / 128 ∧ IsCode (d :: c) (m / 128)
theorem IsCode.cons {b : Int} {c : List Int} {m : Nat} (hc : c ≠ []) (hb : b = ((m % 128 : Nat) : Int) + 128) (h0 : 0 < m / 128) (h : IsCode c (m / 128)) : IsCode (b :: c) m := by
  cases c with
  | nil => exact absurd rfl hc
  | cons d c => exact ⟨hb, h0, h⟩
theorem IsCode.nonempty {c : List Int} {m : Nat} (h : IsCode c m) : c ≠ [] := by
  rintro rfl
  exact h
theorem IsCode.num : ∀ {c : List Int} {m m' : Nat}, IsCode c m → IsCode c m' → m = m'
  | [], _, _, h, _ => h.elim
  | [b], m, m', h, h' => by obtain ⟨h1, _⟩ := h; obtain ⟨h2, _⟩ := h'; omega
  | b :: d :: c, m, m', h, h' => by
    obtain ⟨h1, _, h2⟩ := h
    obtain ⟨h1', _, h2'⟩ := h'
    have := IsCode.num h2 h2'
    omega
theorem IsCode.bytes : ∀ {c c' : List Int} {m : Nat}, IsCode c m → IsCode c' m → c = c'
  | [], _, _, h, _ => h.elim
  | [b], [], _, _, h => h.elim
  | [b], [b'], m, h, h' => by obtain ⟨h1, _⟩ := h; obtain ⟨h2, _⟩ := h'; rw [h1, h2]
  | [b], b' :: d' :: c', m, h, h' => by obtain ⟨_, h1⟩ := h; obtain ⟨_, h2, _⟩ := h'; omega
  | b :: d :: c, [], _, _, h => h.elim
  | b :: d :: c, [b'], m, h, h' => by obtain ⟨_, h1, _⟩ := h; obtain ⟨_, h2⟩ := h'; omega
  | b :: d :: c, b' :: d' :: c', m, h, h' => by
    obtain ⟨h1, _, h2⟩ := h
    obtain ⟨h1', _, h2'⟩ := h'
    rw [IsCode.bytes h2 h2', h1, h1']
/-- No code is the beginning of another one. -/
theorem IsCode.free : ∀ {c c' L : List Int} {m m' : Nat}, IsCode c m → IsCode c' m' → c <+: L → c' <+: L → c = c'
  | [], _, _, _, _, h, _, _, _ => h.elim
  | _ :: _, [], _, _, _, _, h, _, _ => h.elim
  | [b], [b'], L, m, m', h, h', hp, hp' => by
    obtain ⟨t, rfl⟩ := hp
    obtain ⟨t', e⟩ := hp'
    simp at e
    rw [e.1]
  | [b], b' :: d' :: c', L, m, m', h, h', hp, hp' => by
    obtain ⟨t, rfl⟩ := hp
    obtain ⟨t', e⟩ := hp'
    simp at e
    obtain ⟨h1, h2⟩ := h
    obtain ⟨h3, _, _⟩ := h'
    omega
  | b :: d :: c, [b'], L, m, m', h, h', hp, hp' => by
    obtain ⟨t, rfl⟩ := hp
    obtain ⟨t', e⟩ := hp'
    simp at e
    obtain ⟨h1, _, _⟩ := h
    obtain ⟨h2, h3⟩ := h'
    omega
  | b :: d :: c, b' :: d' :: c', L, m, m', h, h', hp, hp' => by
    obtain ⟨t, rfl⟩ := hp
    obtain ⟨t', e⟩ := hp'
    have e : b' = b ∧ d' :: c' ++ t' = d :: c ++ t := by simpa using e
    obtain ⟨_, _, h2⟩ := h
    obtain ⟨_, _, h2'⟩ := h'
    have := IsCode.free h2 h2' (L := (d :: c) ++ t) (List.prefix_append _ _) ⟨t', e.2⟩
    rw [this, e.1]
theorem IsCode.digs : ∀ {c : List Int} {m : Nat}, IsCode c m → Digs 256 c
  | [], _, h => h.elim
  | [b], m, h => by
    obtain ⟨h1, h2⟩ := h
    intro x hx
    simp at hx
    omega
  | b :: d :: c, m, h => by
    obtain ⟨h1, _, h2⟩ := h
    intro x hx
    rcases List.mem_cons.1 hx with e | e
    · omega
    · exact IsCode.digs h2 x e
theorem IsCode.len : ∀ {c : List Int} {m k : Nat}, IsCode c m → m < 128 ^ k → 0 < k → c.length ≤ k
  | [], _, _, h, _, _ => h.elim
  | [b], _, k, _, _, hk => by simp; omega
  | b :: d :: c, m, k, h, hm, hk => by
    obtain ⟨_, h0, h2⟩ := h
    rcases Nat.lt_or_ge 1 k with c1 | c1
    · have : (d :: c).length ≤ k - 1 := IsCode.len h2 (by
        have e : 128 ^ k = 128 ^ (k - 1) * 128 := by rw [← Nat.pow_succ]; congr 1; omega
        rw [e] at hm
        exact Nat.div_lt_of_lt_mul (by rw [Nat.mul_comm]; exact hm)) (by omega)
      simp at this ⊢
      omega
    · obtain rfl : k = 1 := by omega
      rw [Nat.pow_one] at hm
      omega
/-- There is a code of each number. -/
theorem code_ex : ∀ (f : Nat) (m : Nat), m < 128 ^ (f + 1) → ∃ c, IsCode c m
  | 0, m, h => ⟨[(m : Int)], rfl, by simpa using h⟩
  | f + 1, m, h => by
    by_cases hm : m < 128
    · exact ⟨[(m : Int)], rfl, hm⟩
    · obtain ⟨c, hc⟩ := code_ex f (m / 128) (by
        rw [Nat.pow_succ] at h
        exact Nat.div_lt_of_lt_mul (by rw [Nat.mul_comm]; exact h))
      exact ⟨_ :: c, IsCode.cons hc.nonempty rfl (by omega) hc⟩

/-- The bytes of p, to each of which 128 was added, as a number. -/
def loV : List Int → Nat
  | [] => 0
  | x :: p => (x - 128).toNat + 128 * loV p
theorem loV_cons (x : Int) (p : List Int) : loV (x :: p) = (x - 128).toNat + 128 * loV p := rfl
/-- All bytes say that more follow. -/
def Hi (p : List Int) : Prop := ∀ x, x ∈ p → 128 ≤ x ∧ x < 256
theorem Hi.snoc {p : List Int} {x : Int} (h : Hi p) (hx : 128 ≤ x ∧ x < 256) : Hi (p ++ [x]) := by
  intro y hy
  rcases List.mem_append.1 hy with e | e
  · exact h y e
  · simp at e; omega
theorem loV_lt : ∀ {p : List Int}, Hi p → loV p < 128 ^ p.length
  | [], _ => by simp [loV]
  | x :: p, h => by
    have h1 := h x (List.mem_cons_self ..)
    have h2 := loV_lt (p := p) (fun y hy => h y (List.mem_cons_of_mem _ hy))
    rw [List.length_cons, Nat.pow_succ, loV_cons]
    omega
theorem loV_snoc : ∀ {p : List Int} {x : Int}, loV (p ++ [x]) = loV p + (x - 128).toNat * 128 ^ p.length
  | [], x => by simp [loV]
  | y :: p, x => by
    have h := loV_snoc (p := p) (x := x)
    rw [List.cons_append, loV_cons, loV_cons, h, List.length_cons, Nat.pow_succ, Nat.mul_add, ← Nat.mul_assoc (x - 128).toNat, Nat.mul_comm ((x - 128).toNat * 128 ^ p.length) 128]
    omega
/-- What was read is a code. -/
theorem code_of : ∀ {p : List Int} {b : Nat}, Hi p → b < 128 → (p ≠ [] → b ≠ 0) → IsCode (p ++ [(b : Int)]) (loV p + b * 128 ^ p.length)
  | [], b, _, hb, _ => by
    show IsCode [(b : Int)] _
    simp [loV]
    exact ⟨rfl, hb⟩
  | x :: p, b, h, hb, h0 => by
    have h1 := h x (List.mem_cons_self ..)
    have hp : Hi p := fun y hy => h y (List.mem_cons_of_mem _ hy)
    have hb0 : b ≠ 0 := h0 (by simp)
    have ih := code_of (p := p) hp hb (fun _ => hb0)
    have e : loV (x :: p) + b * 128 ^ (x :: p).length = (x - 128).toNat + 128 * (loV p + b * 128 ^ p.length) := by
      rw [List.length_cons, Nat.pow_succ, loV_cons, Nat.mul_add, ← Nat.mul_assoc b, Nat.mul_comm (b * 128 ^ p.length) 128]
      omega
    have hpos : 0 < b * 128 ^ p.length := Nat.mul_pos (by omega) (Nat.pow_pos (by omega))
    rw [List.cons_append, e]
    have hx : (x - 128).toNat < 128 := by omega
    have e1 : ((x - 128).toNat + 128 * (loV p + b * 128 ^ p.length)) / 128 = loV p + b * 128 ^ p.length := by omega
    have e2 : ((x - 128).toNat + 128 * (loV p + b * 128 ^ p.length)) % 128 = (x - 128).toNat := by omega
    refine IsCode.cons (by simp) ?_ ?_ ?_
    · rw [e2]; omega
    · rw [e1]; omega
    · rw [e1]; exact ih

/-- The bytes L begin with no code of a number below 2^64. -/
def NoCode (L : List Int) : Prop := ∀ c m, m < 18446744073709551616 → IsCode c m → ¬ c <+: L
/-- A code goes beyond all bytes that say that more follow, and its last byte says that none does. -/
theorem IsCode.past : ∀ {c : List Int} {m : Nat} {p R : List Int}, IsCode c m → Hi p → c <+: p ++ R → ∃ (q : List Int) (b : Nat), c = p ++ q ++ [(b : Int)] ∧ q ++ [(b : Int)] <+: R ∧ b < 128 ∧ (p ++ q ≠ [] → b ≠ 0) ∧ b * 128 ^ (p ++ q).length ≤ m ∧ Hi q
  | [], _, _, _, h, _, _ => h.elim
  | [b], m, p, R, h, hp, hc => by
    obtain ⟨h1, h2⟩ := h
    cases p with
    | nil => exact ⟨[], m, by rw [h1]; rfl, by rw [← h1]; simpa using hc, h2, fun e => absurd rfl e, by simp, fun x hx => by cases hx⟩
    | cons x p =>
      obtain ⟨t, e⟩ := hc
      simp at e
      have := hp x (List.mem_cons_self ..)
      omega
  | b :: d :: c, m, p, R, h, hp, hc => by
    obtain ⟨h1, h0, h2⟩ := h
    cases p with
    | nil =>
      cases R with
      | nil => obtain ⟨t, e⟩ := hc; simp at e
      | cons r R =>
        obtain ⟨t, e⟩ := hc
        have e : b = r ∧ d :: c ++ t = R := by simpa using e
        obtain ⟨q, b', e1, e2, e3, e4, e5, e6⟩ := IsCode.past (p := []) (R := R) h2 (fun x hx => by cases hx) ⟨t, e.2⟩
        rw [List.nil_append] at e1 e5
        refine ⟨b :: q, b', by rw [e1]; rfl, ?_, e3, fun _ => ?_, ?_, ?_⟩
        · rw [← e.1, List.cons_append]
          exact List.cons_prefix_cons.2 ⟨rfl, e2⟩
        · intro hb
          subst hb
          cases q with
          | nil => obtain ⟨k1, _⟩ := (by rw [e1] at h2; exact h2 : IsCode ([] ++ [((0 : Nat) : Int)]) (m / 128)); omega
          | cons z q => exact e4 (by simp) rfl
        · rw [List.nil_append, List.length_cons, Nat.pow_succ]
          have := Nat.mul_le_mul_right 128 e5
          rw [Nat.mul_assoc] at this
          omega
        · intro y hy
          rcases List.mem_cons.1 hy with k | k
          · omega
          · exact e6 y k
    | cons x p =>
      obtain ⟨t, e⟩ := hc
      have e : b = x ∧ d :: c ++ t = p ++ R := by simpa using e
      obtain ⟨q, b', e1, e2, e3, e4, e5, e6⟩ := IsCode.past (p := p) (R := R) h2 (fun y hy => hp y (List.mem_cons_of_mem _ hy)) ⟨t, e.2⟩
      refine ⟨q, b', by rw [e1, e.1]; rfl, e2, e3, fun _ => ?_, ?_, e6⟩
      · intro hb
        subst hb
        cases hpq : p ++ q with
        | nil =>
          rw [hpq] at e1
          obtain ⟨k1, _⟩ := (by rw [e1] at h2; exact h2 : IsCode ([] ++ [((0 : Nat) : Int)]) (m / 128))
          omega
        | cons z r => exact e4 (by rw [hpq]; simp) rfl
      · rw [List.cons_append, List.length_cons, Nat.pow_succ]
        have := Nat.mul_le_mul_right 128 e5
        rw [Nat.mul_assoc] at this
        omega
theorem no_end {p : List Int} (hp : Hi p) : NoCode p := fun c m _ hc hpre => by
  obtain ⟨q, b, _, h, _⟩ := hc.past (p := p) (R := []) hp (by simpa using hpre)
  obtain ⟨t, e⟩ := h
  simp at e
theorem no_zero {p R : List Int} (hp : Hi p) (h0 : p ≠ []) : NoCode (p ++ 0 :: R) := fun c m _ hc hpre => by
  obtain ⟨q, b, _, h, _, h2, _, h4⟩ := hc.past (p := p) (R := 0 :: R) hp hpre
  cases q with
  | nil =>
    obtain ⟨t, e⟩ := h
    simp at e
    exact h2 (by simpa using h0) (by omega)
  | cons z q =>
    obtain ⟨t, e⟩ := h
    simp at e
    have := h4 z (List.mem_cons_self ..)
    omega
theorem no_tenth {p R : List Int} {x : Int} (hp : Hi p) (hl : p.length = 9) (h1 : 1 < x % 128) : NoCode (p ++ x :: R) := fun c m hm hc hpre => by
  have h10 := hc.len (k := 10) (by have : (128 : Nat) ^ 10 = 1180591620717411303424 := by decide
                                   omega) (by omega)
  obtain ⟨q, b, e1, h, h2, _, h4, h5⟩ := hc.past (p := p) (R := x :: R) hp hpre
  rw [e1] at h10
  simp [hl] at h10
  have hq : q = [] := List.eq_nil_of_length_eq_zero (by omega)
  subst hq
  obtain ⟨t, e⟩ := h
  simp at e
  rw [List.append_nil, hl] at h4
  have e9 : (128 : Nat) ^ 9 = 9223372036854775808 := by decide
  rw [e9] at h4
  have : (b : Int) % 128 = b := by omega
  rw [e.1] at this
  omega
theorem no_long {p : List Int} {R : List Int} (hp : Hi p) (hl : 10 ≤ p.length) : NoCode (p ++ R) := fun c m hm hc hpre => by
  have h10 := hc.len (k := 10) (by have : (128 : Nat) ^ 10 = 1180591620717411303424 := by decide
                                   omega) (by omega)
  obtain ⟨q, b, e1, _⟩ := hc.past (p := p) (R := R) hp hpre
  rw [e1] at h10
  simp at h10
  omega

/-- What stands next: the number n in k bytes; or none (0 in 0 bytes). -/
def NextT (L : List Int) (n k : Nat) : Prop := (n < 18446744073709551616 ∧ k ≤ L.length ∧ IsCode (L.take k) n) ∨ (k = 0 ∧ n = 0 ∧ NoCode L)
theorem NextT.unique {L : List Int} {n k n' k' : Nat} (h : NextT L n k) (h' : NextT L n' k') : n = n' ∧ k = k' := by
  rcases h with ⟨h1, h2, h3⟩ | ⟨rfl, rfl, h1⟩ <;> rcases h' with ⟨g1, g2, g3⟩ | ⟨rfl, rfl, g1⟩
  · have e := h3.free g3 (List.take_prefix _ _) (List.take_prefix _ _)
    have : k = k' := by
      have := congrArg List.length e
      simp at this
      omega
    subst this
    exact ⟨h3.num g3, rfl⟩
  · exact absurd (List.take_prefix _ _) (g1 _ _ h1 h3)
  · exact absurd (List.take_prefix _ _) (h1 _ _ g1 g3)
  · exact ⟨rfl, rfl⟩
theorem NextT.pos {L : List Int} {n k : Nat} (h : NextT L n k) (hk : k ≠ 0) : n < 18446744073709551616 ∧ k ≤ L.length ∧ IsCode (L.take k) n := by
  rcases h with h | ⟨h, _⟩
  · exact h
  · exact absurd h hk
/-- Of a code with whatever behind it just the code is read. -/
theorem NextT.of_code {c R : List Int} {m : Nat} (h : IsCode c m) (hm : m < 18446744073709551616) : NextT (c ++ R) m c.length :=
  .inl ⟨hm, by simp, by simpa using h⟩
end Go.Proofs.YtchmlfjjgehbkaaGreat

namespace Go.Proofs.YtchmlfjjgehbkaaGreat
open Go.RowKit

theorem wp_appBW (w : World) {o : Oper} {a : Act} {K : Act → World → Prop} {Q : Exit → Act → World → Prop} (s x : Operand) (t : TypeId)
    (ho : o.op = .call { callee := .builtin .append, args := #[s, x], argTypes := #[t, t] }) (ht : Tryz.prog.underlying t = some (.slice 5))
    (base : Nat) (v : Value) (zs : List Int) (hs : a.eval s = v) (hown : BOwn w base v zs) (sa : Option Addr) (m c : Nat) (ys : List Int) (hx : a.eval x = .slice sa m c) (hy : Byts w sa m c ys) (hnil : sa = none → c = 0)
    (hlen : zs.length + m ≤ 140737488355328) (w0 : World) (hbase : base ≤ w.heap.size) (hb : Below base w0 w)
    (h : ∀ v' w', BOwn w' base v' (zs ++ ys) → Below base w0 w' → (v ≠ .slice none 0 0 → v' ≠ .slice none 0 0) → K (a.put o.dst v') w') : Oper.wp Tryz.prog o a w K Q := by
  obtain ⟨i0, hi, hz0, hz1, hz2⟩ := info_parts Tryz.infoB
  have hl := hy.hlen
  cases sa with
  | none =>
    have hm : m = 0 := by
      rcases Nat.eq_zero_or_pos m with h0 | h0
      · exact h0
      · obtain ⟨b, off, e, _⟩ := hy.cells h0; cases e
    subst hm
    obtain rfl := hnil rfl
    have e : ys = [] := List.eq_nil_of_length_eq_zero hl
    subst e
    have hrun := run_append_owned_none (P := Tryz.prog) w base t o.type 5 i0 1 ht hi _ _ _ hown
    unfold Oper.wp
    simp [execOp, ho, resolve, invoke, builtin, hs, hx, hrun, Result.andThen]
    exact h v w (by simpa using hown) hb id
  | some ad =>
    refine wp_append_own w s x t ho base 5 i0 (.int .u8 0) 1 1 ht hi hz0 hz1 hz2 rfl (by decide) v zs.length (zs.map (Value.int .u8)) hs hown ad m c (ys.map (Value.int .u8)) hx (by simp [hl]) ?_ (ints_oneCell _ _) ?_ ?_ hbase ?_
    · intro j u hj
      have hjm : j < m := by have := (List.getElem?_eq_some_iff.1 hj).1; simp at this; omega
      obtain ⟨b, off, e, hc⟩ := hy.cells (by omega)
      cases e
      rw [Addr.add_lit, hc j hjm]
      have : (ys.map (Value.int .u8))[j]? = some (.int .u8 (ys.getD j 0)) := by simp [List.getD, show j < ys.length by omega]
      rw [this] at hj
      exact hj
    · unfold maxLen; omega
    · omega
    · intro v' w' h2 h3 h4
      refine h v' w' ?_ (hb.grown h3 hbase (fun k hk => (World.ownsRow.lt hown k hk).1)) (fun hv e => hv (h4.1 e).1)
      have e : (zs ++ ys).length = zs.length + m := by simp [hl]
      unfold BOwn
      rw [e, List.map_append]
      exact h2

theorem wpList_appBW (w : World) {ops : Array Oper} {rest : List Oper} {o : Oper} {a : Act} {Q : Exit → Act → World → Prop} (hgd : o.guard = none) (s x : Operand) (t : TypeId)
    (ho : o.op = .call { callee := .builtin .append, args := #[s, x], argTypes := #[t, t] }) (ht : Tryz.prog.underlying t = some (.slice 5))
    (base : Nat) (v : Value) (zs : List Int) (hs : a.eval s = v) (hown : BOwn w base v zs) (sa : Option Addr) (m c : Nat) (ys : List Int) (hx : a.eval x = .slice sa m c) (hy : Byts w sa m c ys) (hnil : sa = none → c = 0)
    (hlen : zs.length + m ≤ 140737488355328) (w0 : World) (hbase : base ≤ w.heap.size) (hb : Below base w0 w)
    (h : ∀ v' w', BOwn w' base v' (zs ++ ys) → Below base w0 w' → (v ≠ .slice none 0 0 → v' ≠ .slice none 0 0) → wpList Tryz.prog ops Q rest (a.put o.dst v') w') : wpList Tryz.prog ops Q (o :: rest) a w :=
  wpList_plain hgd fun _ hK => wp_appBW w s x t ho ht base v zs hs hown sa m c ys hx hy hnil hlen w0 hbase hb fun v' w' h2 h3 h4 => hK _ _ (h v' w' h2 h3 h4)

theorem step_appBW (w : World) {ops : Array Oper} {o : Oper} {a : Act} {K : Act → World → Prop} {Q : Exit → Act → World → Prop} {E : Prop} (hgd : o.guard = none) (s x : Operand) (t : TypeId)
    (ho : o.op = .call { callee := .builtin .append, args := #[s, x], argTypes := #[t, t] }) (ht : Tryz.prog.underlying t = some (.slice 5))
    (base : Nat) (v : Value) (zs : List Int) (hs : a.eval s = v) (hown : BOwn w base v zs) (sa : Option Addr) (m c : Nat) (ys : List Int) (hx : a.eval x = .slice sa m c) (hy : Byts w sa m c ys) (hnil : sa = none → c = 0)
    (hlen : zs.length + m ≤ 140737488355328) (w0 : World) (hbase : base ≤ w.heap.size) (hb : Below base w0 w)
    (h : ∀ v' w', BOwn w' base v' (zs ++ ys) → Below base w0 w' → (v ≠ .slice none 0 0 → v' ≠ .slice none 0 0) → K (a.put o.dst v') w') : if Region.wanted o (yielded ops a.tmps) = true then Oper.wp Tryz.prog o a w K Q else E := by
  have hw : Region.wanted o (yielded ops a.tmps) = true := by simp [Region.wanted, hgd]
  rw [if_pos hw]
  exact wp_appBW w s x t ho ht base v zs hs hown sa m c ys hx hy hnil hlen w0 hbase hb h
end Go.Proofs.YtchmlfjjgehbkaaGreat

namespace Go.Proofs.YtchmlfjjgehbkaaGreat
open Go.RowKit

/-- What a call that makes the code of a number makes: a row of its own. -/
def CodeT (n : Nat) (w : World) (e : Ending) (w' : World) : Prop := ∃ v c, e = .returned v ∧ BOwn w' w.heap.size v c ∧ IsCode c n ∧ Below w.heap.size w w'
theorem code_10 {c : List Int} {n : Nat} (h : IsCode c n) (hn : n < 18446744073709551616) : c.length ≤ 10 :=
  h.len (by have : (128 : Nat) ^ 10 = 1180591620717411303424 := by decide
            omega) (by omega)
theorem code_any {n : Nat} (hn : n < 18446744073709551616) : ∃ c, IsCode c n := code_ex 9 n (by
  have : (128 : Nat) ^ 10 = 1180591620717411303424 := by decide
  show n < 128 ^ 10
  omega)

/-- A whole number as a number. -/
def zig (x : Int) : Nat := if 0 ≤ x then (2 * x).toNat else (-2 * x - 1).toNat
theorem zig_lt {x : Int} (h : -9223372036854775808 ≤ x ∧ x < 9223372036854775808) : zig x < 18446744073709551616 := by
  unfold zig
  split <;> omega

/-- What a call that makes the code of bytes makes: a row of its own. -/
def CodeB (bs : List Int) (w : World) (e : Ending) (w' : World) : Prop := ∃ v c, e = .returned v ∧ BOwn w' w.heap.size v (c ++ bs) ∧ IsCode c bs.length ∧ Below w.heap.size w w'

end Go.Proofs.YtchmlfjjgehbkaaGreat

namespace Go.Proofs.YtchmlfjjgehbkaaGreat
open Go.RowKit

/-- A call makes bytes that are as P tells. -/
def CodeR (P : List Int → Prop) (w : World) (e : Ending) (w' : World) : Prop := ∃ a l c bs, e = .returned (.slice a l c) ∧ Byts w' a l c bs ∧ P bs ∧ (a = none → c = 0) ∧ Below w.heap.size w w'
/-- The code of bytes. -/
def IsByt (bs ys : List Int) : Prop := ∃ c, IsCode c bs.length ∧ ys = c ++ bs
theorem IsByt.unique {bs ys ys' : List Int} (h : IsByt bs ys) (h' : IsByt bs ys') : ys = ys' := by
  obtain ⟨c, h1, rfl⟩ := h
  obtain ⟨c', h2, rfl⟩ := h'
  rw [h1.bytes h2]

theorem bown_nil {w : World} {base : Nat} {v : Value} {zs : List Int} (h : BOwn w base v zs) (hd : Digs 256 zs) : ∃ a n cap, v = .slice a n cap ∧ Byts w a n cap zs := by
  obtain ⟨a, n, c, e, hB, -⟩ := h.fresh hd
  exact ⟨a, n, c, e, hB⟩
theorem Byts.drew9 {w : World} {a : Option Addr} {l c : Nat} {L : List Int} (h : Byts w a l c L) : Byts w.drew a l c L := ⟨h.hlen, h.hcap, h.hmax, h.cells, h.word⟩
theorem Digs.app9 {B : Int} {x y : List Int} (h : Digs B x) (k : Digs B y) : Digs B (x ++ y) := fun z hz => by
  rcases List.mem_append.1 hz with c | c
  · exact h z c
  · exact k z c
theorem i64_of_wf9 {x : Int} (h : (Lit.int .i64 x).wf = true) : -9223372036854775808 ≤ x ∧ x < 9223372036854775808 := by
  simp [Lit.wf, IntKind.min, IntKind.max, IntKind.signed, IntKind.bits] at h
  exact ⟨by omega, by omega⟩
theorem u64_of_wf9 {x : Int} (h : (Lit.int .u64 x).wf = true) : ∃ n : Nat, x = (n : Int) ∧ n < 18446744073709551616 := by
  simp [Lit.wf, IntKind.min, IntKind.max, IntKind.signed, IntKind.bits] at h
  exact ⟨x.toNat, by omega, by omega⟩
theorem row_nil9 {k : IntKind} {w : World} {a : Option Addr} {len cap : Nat} {zs : List Int} (h : IsRow k w a len cap zs) : a = none → cap = 0 := by
  rintro rfl
  rcases h with ⟨_, _, h, _⟩ | ⟨x, e, _⟩
  · exact h
  · cases e
end Go.Proofs.YtchmlfjjgehbkaaGreat

namespace Go.Proofs.YtchmlfjjgehbkaaGreat
open Go.RowKit

/-- A number is read. -/
def ResNum (L : List Int) (most n : Nat) (err : Int) (R : List Int) : Prop :=
  ∃ m k, NextT L m k ∧ (((k = 0 ∨ most < m) ∧ n = 0 ∧ err = 13 ∧ R = L) ∨ (¬(k = 0 ∨ most < m) ∧ n = m ∧ err = 0 ∧ R = L.drop k))
theorem ResNum.unique {L : List Int} {most n n' : Nat} {err err' : Int} {R R' : List Int} (h : ResNum L most n err R) (h' : ResNum L most n' err' R') : n = n' ∧ err = err' ∧ R = R' := by
  obtain ⟨m, k, h1, h2⟩ := h
  obtain ⟨m', k', h1', h2'⟩ := h'
  obtain ⟨rfl, rfl⟩ := h1.unique h1'
  rcases h2 with ⟨c, rfl, rfl, rfl⟩ | ⟨c, rfl, rfl, rfl⟩ <;> rcases h2' with ⟨c', rfl, rfl, rfl⟩ | ⟨c', rfl, rfl, rfl⟩
  · exact ⟨rfl, rfl, rfl⟩
  · exact absurd c c'
  · exact absurd c' c
  · exact ⟨rfl, rfl, rfl⟩
theorem ResNum.lt {L : List Int} {most n : Nat} {err : Int} {R : List Int} (h : ResNum L most n err R) : n < 18446744073709551616 := by
  obtain ⟨m, k, h1, h2⟩ := h
  rcases h2 with ⟨c, rfl, rfl, rfl⟩ | ⟨c, rfl, rfl, rfl⟩
  · omega
  · exact (h1.pos (by omega)).1

/-- The whole number of a number. -/
def zag (m : Nat) : Int := if m % 2 = 1 then -((m / 2 : Nat) : Int) - 1 else ((m / 2 : Nat) : Int)
/-- A whole number is read. -/
def ResIntR (L : List Int) (most x err : Int) (R : List Int) : Prop :=
  ∃ m k : Nat, NextT L m k ∧ (((k = 0 ∨ most < 0 ∨ most < (((m + 1) / 2 : Nat) : Int)) ∧ x = 0 ∧ err = 13 ∧ R = L) ∨ (¬(k = 0 ∨ most < 0 ∨ most < (((m + 1) / 2 : Nat) : Int)) ∧ x = zag m ∧ err = 0 ∧ R = L.drop k))
theorem ResIntR.unique {L : List Int} {most x x' err err' : Int} {R R' : List Int} (h : ResIntR L most x err R) (h' : ResIntR L most x' err' R') : x = x' ∧ err = err' ∧ R = R' := by
  obtain ⟨m, k, h1, h2⟩ := h
  obtain ⟨m', k', h1', h2'⟩ := h'
  obtain ⟨rfl, rfl⟩ := h1.unique h1'
  rcases h2 with ⟨c, rfl, rfl, rfl⟩ | ⟨c, rfl, rfl, rfl⟩ <;> rcases h2' with ⟨c', rfl, rfl, rfl⟩ | ⟨c', rfl, rfl, rfl⟩
  · exact ⟨rfl, rfl, rfl⟩
  · exact absurd c c'
  · exact absurd c' c
  · exact ⟨rfl, rfl, rfl⟩

/-- Bytes are read. -/
def ResBytR (L : List Int) (most : Int) (ys : List Int) (err : Int) (R : List Int) : Prop :=
  ∃ m k : Nat, NextT L m k ∧ (((k = 0 ∨ most < 0 ∨ most < (m : Int) ∨ L.length - k < m) ∧ ys = [] ∧ err = 13 ∧ R = L) ∨ (¬(k = 0 ∨ most < 0 ∨ most < (m : Int) ∨ L.length - k < m) ∧ ys = (L.drop k).take m ∧ err = 0 ∧ R = L.drop (k + m)))
theorem ResBytR.unique {L : List Int} {most err err' : Int} {ys ys' R R' : List Int} (h : ResBytR L most ys err R) (h' : ResBytR L most ys' err' R') : ys = ys' ∧ err = err' ∧ R = R' := by
  obtain ⟨m, k, h1, h2⟩ := h
  obtain ⟨m', k', h1', h2'⟩ := h'
  obtain ⟨rfl, rfl⟩ := h1.unique h1'
  rcases h2 with ⟨c, rfl, rfl, rfl⟩ | ⟨c, rfl, rfl, rfl⟩ <;> rcases h2' with ⟨c', rfl, rfl, rfl⟩ | ⟨c', rfl, rfl, rfl⟩
  · exact ⟨rfl, rfl, rfl⟩
  · exact absurd c c'
  · exact absurd c' c
  · exact ⟨rfl, rfl, rfl⟩

/-- Block b is one of bytes. -/
def IsB (w : World) (b : Nat) : Prop := ∃ cur, w.heap[b]? = some (.cells cur 5 (0, 0))
theorem IsB.lt {w : World} {b : Nat} (h : IsB w b) : b < w.heap.size := by
  obtain ⟨cur, h⟩ := h
  exact (Array.getElem?_eq_some_iff.1 h).1
theorem IsB.kept {w w' : World} {b : Nat} (h : IsB w b) (e : w'.heap[b]? = w.heap[b]?) : IsB w' b := by
  obtain ⟨cur, h⟩ := h
  exact ⟨cur, e.trans h⟩
theorem IsB.below {w w' : World} {b : Nat} (h : IsB w b) (hb : Below w.heap.size w w') : IsB w' b := h.kept (hb.block b h.lt)
theorem IsB.not {w : World} {b : Nat} {cur : Array Value} {t : TypeId} {m : Nat × Nat} (h : w.heap[b]? = some (.cells cur t m)) (ht : t ≠ 5) : ¬ IsB w b := by
  rintro ⟨cur', h'⟩
  rw [h] at h'
  simp at h'
  exact ht h'.2.1
/-- What lies there, if there is any of it, lies in a block of bytes. -/
def IsBs (w : World) (a : Option Addr) (l : Nat) : Prop := ∀ ad, a = some ad → 0 < l → IsB w ad.block
theorem IsBs.below {w w' : World} {a : Option Addr} {l : Nat} (h : IsBs w a l) (hb : Below w.heap.size w w') : IsBs w' a l := fun ad e h0 => (h ad e h0).below hb
/-- What a call that reads makes, with At: where the reader lies. -/
def NumT (At : World → Nat → List Int → Prop) (w : World) (g : Nat) (L : List Int) (most : Nat) (e : Ending) (w' : World) : Prop :=
  ∃ n : Nat, ∃ err R, e = .returned (.tuple #[.int .u64 n, .int .i64 err]) ∧ ResNum L most n err R ∧ At w' g R ∧ w.grownBy w' (some g)
def IntT (At : World → Nat → List Int → Prop) (w : World) (g : Nat) (L : List Int) (most : Int) (e : Ending) (w' : World) : Prop :=
  ∃ x err R, e = .returned (.tuple #[.int .i64 x, .int .i64 err]) ∧ ResIntR L most x err R ∧ At w' g R ∧ w.grownBy w' (some g)
def BytT (At : World → Nat → List Int → Prop) (w : World) (g : Nat) (L : List Int) (most : Int) (e : Ending) (w' : World) : Prop :=
  ∃ a l c ys err R, e = .returned (.tuple #[.slice a l c, .int .i64 err]) ∧ (Byts w' a l c ys ∧ (a = none → c = 0) ∧ ∀ ad, a = some ad → 0 < l → w.heap.size ≤ ad.block ∧ IsB w' ad.block) ∧ ResBytR L most ys err R ∧ At w' g R ∧ w.grownBy w' (some g)
end Go.Proofs.YtchmlfjjgehbkaaGreat
