/-
  A number's text is parsed as the number.
-/
import Derived.Test.YtnioobiodiofiabTextA
import Derived.Test.YtnioobiodiofiabParse
namespace Go.Proofs.Ytnioobiodiofiab
open Go.RowKit

theorem strOf_list (bs : List Int) : (strOf bs).data.toList = bs.map (fun n => UInt8.ofNat n.toNat) := by
  have : ∀ (l : List Int) (r : ByteArray), (l.foldl (fun r n => r.push (UInt8.ofNat n.toNat)) r).data.toList = r.data.toList ++ l.map (fun n => UInt8.ofNat n.toNat) := by
    intro l
    induction l with
    | nil => intro r; simp
    | cons x l ih => intro r; rw [List.foldl_cons, ih]; simp [ByteArray.push]
  unfold strOf
  rw [this]; simp

theorem sign_nat {d : Int} (h : 0 ≤ d ∧ d < 10) : ((UInt8.ofNat (48 + d).toNat).toNat : Int) = 48 + d := by
  rw [UInt8.toNat_ofNat']
  omega

theorem sg_rev (ds : List Int) (d : Int) : (sg10 (d :: ds)).reverse.map (fun n => UInt8.ofNat n.toNat) = (sg10 ds).reverse.map (fun n => UInt8.ofNat n.toNat) ++ [UInt8.ofNat (48 + d).toNat] := by simp [sg10]

theorem dval_text {ds : List Int} (h : Digs 10 ds) : dval ((sg10 ds).reverse.map (fun n => UInt8.ofNat n.toNat)) = val 10 ds ∧ Decs ((sg10 ds).reverse.map (fun n => UInt8.ofNat n.toNat)) := by
  induction ds with
  | nil => exact ⟨rfl, fun c hc => by simp [sg10] at hc⟩
  | cons d r ih =>
    have h1 := h d (List.mem_cons_self ..)
    have h2 := ih (fun y hy => h y (List.mem_cons_of_mem _ hy))
    have e := sign_nat h1
    rw [sg_rev]
    refine ⟨?_, fun c hc => ?_⟩
    · rw [dval_snoc, h2.1, val, e]; omega
    · rcases List.mem_append.1 hc with hc | hc
      · exact h2.2 c hc
      · simp only [List.mem_singleton] at hc
        rw [hc, e]; omega

theorem text_parse {zs : List Int} {S : ByteArray} (hd : Digs 18446744073709551616 zs) (hr : rightB zs = true) (h : ResText zs S) : textB S = true ∧ dval S.data.toList = val 18446744073709551616 zs := by
  unfold ResText at h
  rw [if_pos hr] at h
  split at h
  · rename_i h0
    subst h
    rw [List.eq_nil_of_length_eq_zero h0]
    exact ⟨by decide, by decide⟩
  · rename_i h0
    obtain ⟨ds, d1, d2, d3, rfl⟩ := h
    have q := dval_text d1
    have hp := right_pos hd hr h0
    have hds : 0 < ds.length := by
      rcases Nat.eq_zero_or_pos ds.length with e | e
      · exfalso; rw [List.eq_nil_of_length_eq_zero e, val_nil] at d3; omega
      · exact e
    have hl : ds.length ≤ 1234 := len_le (B := 10) (by decide) d1 d2 (by
      rw [d3]
      have := val_lt_pow (B := 18446744073709551616) (by decide) hd (right_len hr)
      have := big_ten
      omega)
    have hsz : (strOf (sg10 ds).reverse).size = ds.length := by rw [strOf_size, List.length_reverse, sg10_len]
    refine ⟨?_, by rw [strOf_list, q.1, d3]⟩
    rw [textB_all (by omega) (by rw [strOf_list]; exact q.2)]
    have hne : (strOf (sg10 ds).reverse).data.toList.headD 0 ≠ 48 := by
      rw [strOf_list]
      intro e
      rcases d2 with e2 | e2
      · rw [e2] at hds; simp at hds
      · have hb := d1.getD (by decide) (ds.length - 1)
        have e3 : ((sg10 ds).reverse.map (fun n => UInt8.ofNat n.toNat)).headD 0 = UInt8.ofNat (48 + ds.getD (ds.length - 1) 0).toNat := by
          have h5 : 0 < ((sg10 ds).reverse.map (fun n => UInt8.ofNat n.toNat)).length := by simp [sg10]; omega
          rw [head_get _ h5]
          simp [sg10, List.getD, show ds.length - 1 < ds.length by omega]
        rw [e3] at e
        have e4 := sign_nat hb
        have e5 : ((48 : UInt8).toNat : Int) = 48 := by decide
        rw [e, e5] at e4
        omega
    rw [Bool.or_eq_true]
    right
    exact bne_iff_ne.2 hne

/-- What is read of the text, and of the bytes, of a number that may be. -/
theorem parse_back {zs ls : List Int} {S : ByteArray} {e : Int} (hd : Digs 18446744073709551616 zs) (hr : rightB zs = true) (h : ResText zs S) (hp : ResParse S ls e) : ls = zs ∧ e = 0 := by
  obtain ⟨t1, t2⟩ := text_parse hd hr h
  unfold ResParse at hp
  rw [if_pos t1, t2] at hp
  exact hp.unique (.inl ⟨rfl, hd, right_top hr, right_len hr, rfl⟩)

theorem read_back {zs bs ls : List Int} {e : Int} (hd : Digs 18446744073709551616 zs) (hr : rightB zs = true) (h : ResBytes zs bs) (hp : Res (val 256 bs.reverse) ls e) : ls = zs ∧ e = 0 := by
  unfold ResBytes at h
  rw [if_pos hr] at h
  rw [h.2.2] at hp
  exact hp.unique (.inl ⟨rfl, hd, right_top hr, right_len hr, rfl⟩)

theorem top_div {zs ps qs rs : List Int} {e : Int} (hd : Digs 18446744073709551616 zs) (hr : rightB zs = true) (h0 : zs.length ≠ 0) (hp : rightB ps = true) (hv : val 18446744073709551616 ps = val 18446744073709551616 zs * val 18446744073709551616 zs) (h : ResDiv ps zs qs rs e) : qs = zs ∧ rs.length = 0 ∧ e = 0 := by
  have hpos := right_pos hd hr h0
  unfold ResDiv at h
  rw [hp, hr, if_pos (show (true && true) = true from rfl), if_neg h0] at h
  obtain ⟨rfl, d1, d2, t1, t2, v1, v2⟩ := h
  rw [hv, Int.mul_ediv_cancel _ (by omega)] at v1
  rw [hv, Int.mul_emod_left] at v2
  refine ⟨val_inj (by decide) d1 hd (right_top t1) (right_top hr) v1, ?_, rfl⟩
  rcases Nat.eq_zero_or_pos rs.length with e | e
  · exact e
  · have := right_pos d2 t2 (by omega); omega

theorem text_one {S : ByteArray} (h : ResText [1] S) : S = ⟨#[49]⟩ := by
  refine h.unique ?_
  unfold ResText
  rw [if_pos (by decide), if_neg (by decide)]
  exact ⟨[1], by intro x hx; simp at hx; omega, .inr (by decide), by decide, by rfl⟩
end Go.Proofs.Ytnioobiodiofiab
