/- Slices of words: what is known of one that reads as a list; their bytes. -/
import Derived.Test.YtmifiadkhmglmaaByR
import Derived.Laws.OwnMore
set_option linter.unusedVariables false
namespace Go.Proofs.Ytmifiadkhmglmaa
open Go.RowKit

/-- A slice of words that reads as the list zs. -/
def Rd (w : World) (a : Option Addr) (n : Nat) (zs : List Int) : Prop :=
  zs.length = n ∧ (n = 0 ∨ ∃ b off, a = some ⟨b, off, none⟩ ∧ b < w.heap.size ∧ ∀ j, j < n → w.cell? ⟨b, off + j, none⟩ = some (.int .u32 (zs.getD j 0))) ∧ ∀ j, 0 ≤ zs.getD j 0 ∧ zs.getD j 0 < 4294967296

theorem Rd.below {w w' : World} {a : Option Addr} {n : Nat} {zs : List Int} (h : Rd w a n zs) (hb : Below w.heap.size w w') : Rd w' a n zs := by
  obtain ⟨h1, h2, h3⟩ := h
  refine ⟨h1, ?_, h3⟩
  rcases h2 with h2 | ⟨b, off, ha, hlt, hc⟩
  · exact Or.inl h2
  · exact Or.inr ⟨b, off, ha, Nat.lt_of_lt_of_le hlt hb.size, fun j hj => (hb.cell (p := ⟨b, off + j, none⟩) hlt).trans (hc j hj)⟩

theorem bytes_rd {w : World} {a : Option Addr} {n cap : Nat} {zs : List Int} (h : Rd w a n zs) (hn : n ≤ 4096) :
    Calls Try.prog 20 #[.slice a n cap] w fun e w' => e = .returned (.string (strOfNums (bytsAll zs))) ∧ Below w.heap.size w w' := by
  obtain ⟨h1, h2, h3⟩ := h
  by_cases h0 : n = 0
  · subst h0
    have e : zs = [] := List.length_eq_zero_iff.1 h1
    subst e
    exact bytes_nil a cap w
  · rcases h2 with h2 | ⟨b, off, ha, hlt, hc⟩
    · exact absurd h2 h0
    · subst ha
      exact bytes_row b off n cap zs w h1 hn (by omega) hlt hc h3
theorem ref_bytes_rd {w : World} {a : Option Addr} {n cap : Nat} {zs : List Int} (h : Rd w a n zs) (hn : n ≤ 4096) :
    Calls Try.prog 21 #[.slice a n cap] w fun e w' => e = .returned (.string (strOfNums (bytsAll zs))) ∧ Below w.heap.size w w' := by
  obtain ⟨h1, h2, h3⟩ := h
  by_cases h0 : n = 0
  · subst h0
    have e : zs = [] := List.length_eq_zero_iff.1 h1
    subst e
    exact ref_bytes_nil a cap w
  · rcases h2 with h2 | ⟨b, off, ha, hlt, hc⟩
    · exact absurd h2 h0
    · subst ha
      exact ref_bytes_row b off n cap zs w h1 hn (by omega) hlt hc h3
theorem rd_own {w : World} {B g n cap : Nat} {zs : List Int} (h : w.ownsRow B 35 1 (.slice (some ⟨g, 0, none⟩) n cap) n (zs.map (Value.int .u32))) (hl : zs.length = n) (hz : ∀ z ∈ zs, 0 ≤ z ∧ z < 4294967296) :
    Rd w (some ⟨g, 0, none⟩) n zs := by
  refine ⟨hl, Or.inr ⟨g, 0, rfl, (h.lt g rfl).2, ?_⟩, ?_⟩
  · intro j hj
    rw [Nat.zero_add, h.cellAt j (by omega)]
    simp [List.getElem?_map, List.getD, List.getElem?_eq_getElem (show j < zs.length by omega)]
  · intro j
    by_cases hj : j < zs.length
    · have := hz _ (List.getElem_mem hj)
      simpa [List.getD, hj] using this
    · simp [List.getD, List.getElem?_eq_none (by omega : zs.length ≤ j)]
end Go.Proofs.Ytmifiadkhmglmaa
