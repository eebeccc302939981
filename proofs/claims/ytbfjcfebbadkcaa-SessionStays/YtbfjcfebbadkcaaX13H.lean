/-
  The program's session: the contract of Who; all eight together.
-/
import Derived.Test.YtbfjcfebbadkcaaX13G
import Derived.Test.YtbfjcfebbadkcaaSortI
namespace Go.Proofs.Ytbfjcfebbadkcaa
open Go.RowKit Go.Maps

/-- Whom the range has met. -/
structure WhoI (w : World) (m : Nat) (ws : Nat → Option (Nat × List Int)) (D : DataW Value) (left : Lit → Bool) (cnt : Nat) (v : Value) (ns : List Nat) (wr : World) : Prop where
  rng : wr.ranges Try.prog 3 tok13 m w.heap.size (size D) D left cnt
  below : Below w.heap.size w wr
  own : IOwn wr (w.heap.size + 1) v (ints ns)
  nod : ns.Nodup
  mem : ∀ k, k ∈ ns ↔ ws k ≠ none ∧ left (pkey k) = false
theorem whoI_few {w : World} {m : Nat} {ws : Nat → Option (Nat × List Int)} {D : DataW Value} {left : Lit → Bool} {cnt : Nat} {v : Value} {ns : List Nat} {wr : World} (h : WhoI w m ws D left cnt v ns wr) (h16 : ∀ k x, ws k = some x → k < 16) : ns.length ≤ 16 := few13 16 ns h.nod (fun k hk => by
  have := ((h.mem k).1 hk).1
  cases q : ws k with
  | none => exact absurd q this
  | some x => exact h16 k x q)
theorem who_sorted {st : SS} (hF : st.Fine) (ho : st.phase ≠ 0 → ∀ p, st.waits p = none) {ns : List Nat} (hn : ns.Nodup) (hm : ∀ k, k ∈ ns ↔ st.waits k ≠ none) : (ints ns).mergeSort leI = ints st.who := by
  have hw : st.who = (List.range st.parties).filter fun p => (st.waits p).isSome := by
    unfold SS.who
    by_cases h0 : st.phase = 0
    · rw [if_neg (by omega)]
    · rw [if_pos h0]
      symm
      rw [List.filter_eq_nil_iff]
      intro k _
      rw [ho h0 k]
      simp
  have hsub : st.who.Pairwise (· < ·) := by
    rw [hw]
    exact List.pairwise_lt_range.filter _
  refine sortI_of ?_ ?_
  · unfold ints
    refine List.Perm.map _ ((List.perm_ext_iff_of_nodup hn (hsub.imp fun {a b} h => Nat.ne_of_lt h)).2 fun k => ?_)
    rw [hm k, hw, List.mem_filter, List.mem_range]
    constructor
    · intro h
      cases q : st.waits k with
      | none => exact absurd q h
      | some x => exact ⟨(hF.wai k x q).1, rfl⟩
    · rintro ⟨_, h⟩ e
      rw [e] at h
      cases h
  · unfold ints
    rw [List.pairwise_map]
    exact hsub.imp fun {a b} h => by omega
set_option maxRecDepth 100000 in
set_option maxHeartbeats 6400000 in
theorem p13who_any (g : Nat) (st : SS) (T : Nat → Prop) (w : World) (h : PSes w g st T) : Calls Try.prog 11 #[.pointer (some ⟨g, 0, none⟩)] w fun e w' => WhoT13 st w e w' := by
  obtain ⟨m, h⟩ := h
  have HM := (show Hid _ from p13made_any h)
  have c4 : w.cell? ⟨g, 4, none⟩ = some (.map (some m)) := h.cell 4
  obtain ⟨D, ks, h1, -, -, -, h5, h6⟩ := h.waits
  have H5 : Hid (∀ x : Int, has D (.int .i64 x) = true → ∃ k : Nat, x = (k : Int) ∧ st.waits k ≠ none) := h5
  have H6 : Hid (∀ k y, st.waits k = some y → has D (pkey k) = true ∧ ∀ z, D.atKey (pkey k) z = .held (wv y)) := h6
  have H : Hid (PSesV w g m st T) := h
  have H16 : Hid (∀ k x, st.waits k = some x → k < 16) := fun k x e => by have := (h.fine.wai k x e).1; have := h.fine.par; omega
  clear h5 h6 h
  go_enter Try.func11, Try.ntmps11
  go_wp2_with fail
  refine Calls.mono HM.out ?_
  rintro e w1 ⟨rfl, rfl⟩
  clear HM
  go_wp2_with (first
    | (at_range; refine wpList_range_own _ rfl _ 49 rfl 3 70 key13 Try.underlying49 tok13 m _ D rfl h1 ?_; intro w0 hrg0 hg0 hs0)
    | go_in)
  go_frame
  go_loopw [3] (fun v3 wr => ∃ (left : Lit → Bool) (cnt : Nat) (ns : List Nat), Hid (WhoI w1 m st.waits D left cnt v3 ns wr)) (fun _ wr => wr.rangeLeft m w1.heap.size)
  case atStart =>
    exact ⟨_, _, [], ⟨hrg0, ⟨hg0.os, hg0.tape, hg0.output, hg0.size, fun i hi => hg0.block i hi (by simp)⟩, IOwn.nil _ _, List.nodup_nil, fun k => ⟨fun e => (by cases e), fun e => (by
      cases q : st.waits k with
      | none => exact absurd q e.1
      | some x => have := (H6.out k x q).1; rw [this] at e; cases e.2)⟩⟩⟩
  case round =>
    obtain ⟨left, cnt, ns, HI⟩ := hrel
    have hrg := HI.out.rng
    go_wp2_with (first
      | (at_next; refine wpList_next_ranges _ rfl _ rfl 3 key13 tok13 (Value.int .i64) (fun v : Value => v) (fun key kl hk => by obtain ⟨x, rfl, _⟩ := Maps.keyOf_int_inv Try.underlying3 hk; exact ⟨x, rfl⟩) (fun v y hv => ⟨v, rfl⟩) m w1.heap.size (size D) D left cnt rfl hrg ?_ ?_)
      | go_in)
    · intro _ hl0
      have hfew := whoI_few HI.out H16.out
      have HS := (show Hid _ from sortI_any HI.out.own (by rw [ints_len]; omega))
      have HW : Hid ((ints ns).mergeSort leI = ints st.who) := who_sorted H.out.fine H.out.over HI.out.nod (fun k => by rw [HI.out.mem k, hl0]; simp)
      have HB : Hid (∀ w', wr.grownBy w' u3.ownBlock → Below w1.heap.size w1 w') := fun w' hg => HI.out.below.trans ⟨hg.os, hg.tape, hg.output, hg.size, fun q hq => hg.block q (Nat.lt_of_lt_of_le hq HI.out.below.size) (fun e => by have := (World.ownsRow.lt HI.out.own q e.symm).1; omega)⟩
      rw [HW.out] at HS
      clear hrg hl0 HI h1 hrg0 hg0 hs0 c4 hfew HW
      go_wp2_with fail
      refine Calls.mono HS.out ?_
      rintro e w3 ⟨rfl, hO, hg3⟩
      have HO : Hid (IOwn w3 (w1.heap.size + 1) u3 (ints st.who) ∧ Below w1.heap.size w1 w3) := ⟨hO, HB.out w3 hg3⟩
      clear HS hO hg3 HB
      dsimp only
      go_wp2
      go_ret
      obtain ⟨a, cp, e, hL, -⟩ := HO.out.1.lsts (who_word H.out.fine)
      rw [ints_len] at e hL
      exact ⟨a, cp, by rw [e]; rfl, hL, HO.out.2⟩
    · intro x v kl yd yp w2 cnt1 hkey hlk hv hat hrg1 hlt hg1 hs1 hen
      obtain ⟨k, z, rfl, rfl, hz, rfl⟩ := waits_entry H5.out H6.out hkey hv hat
      have hfew := whoI_few HI.out H16.out
      have hB2 := below_of_grown13 HI.out.below hg1
      have hO1 : IOwn w2 (w1.heap.size + 1) u3 (ints ns) := HI.out.own.grown hg1 (Nat.lt_succ_self _)
      have hlit := balloc w2 (.cells #[.int .i64 (k : Int)] 3)
      have hO2 := hO1.alloc (.cells #[.int .i64 (k : Int)] 3)
      have hlen : (ints ns).length < 1000000 := by rw [ints_len]; omega
      have HB : Hid (Below w1.heap.size w1 (w2.alloc (.cells #[.int .i64 (k : Int)] 3))) := bthen hB2 hlit
      have hrl := HI.out.rng.lt
      have hbs : w1.heap.size + 1 ≤ (w2.alloc (.cells #[.int .i64 (k : Int)] 3)).heap.size := by
        have := hg1.size
        have e : (w2.alloc (.cells #[.int .i64 (k : Int)] 3)).heap.size = w2.heap.size + 1 := by simp
        rw [e]
        omega
      have hrg2 : (w2.alloc (.cells #[.int .i64 (k : Int)] 3)).ranges Try.prog 3 tok13 m w1.heap.size (size D) D (fun q => left q && !q.sameKey (pkey k)) cnt1 := hrg1.kept (World.grownBy_alloc w2 _ none) (by simp) (by simp)
      have hml := h1.lt
      have HN : Hid (∀ v' w', IOwn w' (w1.heap.size + 1) v' (ints ns ++ [(k : Int)]) → (w2.alloc (.cells #[.int .i64 (k : Int)] 3)).grownBy w' u3.ownBlock → WhoI w1 m st.waits D (fun q => left q && !q.sameKey (pkey k)) cnt1 v' (ns ++ [k]) w' ∧ w'.rangeLeft m w1.heap.size < wr.rangeLeft m w1.heap.size) := fun v' w' hO hg => by
        have hne : ∀ q, u3.ownBlock = some q → w1.heap.size + 1 ≤ q := fun q e => (World.ownsRow.lt hO2 q e).1
        have hr' := hrg2.kept hg (fun e => by have := hne m e.symm; omega) (fun e => by have := hne _ e.symm; omega)
        refine ⟨⟨hr', HB.out.trans ⟨hg.os, hg.tape, hg.output, hg.size, fun q hq => hg.block q (by omega) (fun e => by have := hne q e.symm; omega)⟩, by rw [ints_snoc]; exact hO, ?_, fun j => ?_⟩, by rw [hr'.left_eq, hrg.left_eq]; exact hlt⟩
        · rw [List.nodup_append]
          refine ⟨HI.out.nod, by simp, fun a ha b hb e => ?_⟩
          simp at hb
          subst hb
          subst e
          rw [((HI.out.mem a).1 ha).2] at hlk
          cases hlk
        · rw [List.mem_append, HI.out.mem j]
          by_cases ej : j = k
          · subst ej
            have hsk : (pkey j).sameKey (pkey j) = true := by
              unfold pkey Lit.sameKey
              simp
            simp [hsk, hz]
          · rw [sameKey_ne (pkey_ne ej)]
            simp [ej]
      clear hkey hlk hv hat hrg1 hlt hg1 hs1 hrg hrg2 hz HI hrg0 hg0 hs0 h1 c4 hB2 hO1 hlit hfew hrl hml HB
      go_wp2_with (first
        | (at_builtin; refine wpList_appI1 _ rfl _ _ 32 rfl Try.underlying32 (w1.heap.size + 1) _ _ rfl hO2 ⟨w2.heap.size, 0, none⟩ (k : Int) rfl ?c1 hlen hbs ?_)
        | go_in)
      case c1 => simp
      intro v5 w5 hO5 hg5
      have HF := (show Hid _ from HN.out v5 w5 hO5 hg5)
      clear hO2 hO5 hg5 HN hbs hlen hen
      go_wp2
      go_roundw
      case rel => exact ⟨_, _, _, HF.out.1⟩
      case measure => exact HF.out.2
theorem ses_ok13 : SesOk13 ⟨6, 15, 17, 19, 21, 14, 9, 11⟩ PSes where
  toSesKept13 := pses_kept
  new := fun a b c w _ _ _ => p13new_any a b c w
  await := fun g st T p a l c ks w h _ hL _ _ => p13await_any g st T p a l c ks w h hL
  take := fun g st T p k a b c pi pr pn li ci lr cr ln cn w h _ _ _ => p13take_any g st T p k a b c pi pr pn li ci lr cr ln cn w h
  tick := fun g st T n w h _ => p13tick_any g st T n w h
  finish := fun g st T w h => p13finish_any g st T w h
  abort := fun g st T y w h _ => p13abort_any g st T y w h
  state := fun g st T w h => p13state_any g st T w h
  who := fun g st T w h => p13who_any g st T w h
end Go.Proofs.Ytbfjcfebbadkcaa
