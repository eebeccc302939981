/-
  The text "1" is the number 1.
-/
import Derived.Test.YtennhoalgclhjabParse
namespace Go.Proofs.Ytennhoalgclhjab
open Go.RowKit

theorem parse_one {ls : List Int} {e : Int} (h : ResParse ⟨#[49]⟩ ls e) : ls.length = 1 := by
  have ht : textB ⟨#[49]⟩ = true := by decide
  rw [ResParse, ht, if_pos rfl, show dval (⟨#[49]⟩ : ByteArray).data.toList = 1 by decide] at h
  have h2 : Res 1 [1] 0 := .inl ⟨rfl, by intro x hx; simp at hx; omega, by simp [Top], by simp, by simp [val]⟩
  rw [(h.unique h2).1]; rfl
end Go.Proofs.Ytennhoalgclhjab
