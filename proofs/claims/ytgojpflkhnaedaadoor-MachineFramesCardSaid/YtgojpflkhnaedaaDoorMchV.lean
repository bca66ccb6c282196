/- Stage 9: in how many places two functions part; what MachineFrames asks of a step; its two states in their boxes. -/
import Derived.Test.YtgojpflkhnaedaaDoorMchT
set_option linter.unusedVariables false
namespace Go.Proofs.YtgojpflkhnaedaaDoor
open Go.RowKit

/-- In how many places below k do f and g part? -/
def dif (f g : Nat → Int) : Nat → Nat
  | 0 => 0
  | k + 1 => dif f g k + if f k = g k then 0 else 1
theorem dif_le (f g : Nat → Int) : ∀ n, dif f g n ≤ n
  | 0 => Nat.le_refl _
  | k + 1 => by
    have := dif_le f g k
    unfold dif
    split <;> omega
theorem dif_yes {f g : Nat → Int} {k : Nat} (h : f k = g k) : dif f g (k + 1) = dif f g k := by
  show dif f g k + (if f k = g k then 0 else 1) = _
  rw [if_pos h, Nat.add_zero]
theorem dif_no {f g : Nat → Int} {k : Nat} (h : ¬ f k = g k) : dif f g (k + 1) = dif f g k + 1 := by
  show dif f g k + (if f k = g k then 0 else 1) = _
  rw [if_neg h]
theorem dif_eq {f g : Nat → Int} : ∀ n, (∀ k, k < n → f k = g k) → dif f g n = 0
  | 0, _ => rfl
  | k + 1, h => by rw [dif_yes (h k (by omega)), dif_eq k (fun j hj => h j (by omega))]
theorem dif_one {f g : Nat → Int} {a : Nat} (h : ∀ k, k ≠ a → f k = g k) : ∀ n, dif f g n ≤ 1
  | 0 => by unfold dif; omega
  | k + 1 => by
    by_cases hk : k = a
    · have h0 := dif_eq (f := f) (g := g) k (fun j hj => h j (by omega))
      unfold dif
      split <;> omega
    · rw [dif_yes (h k hk)]
      exact dif_one h k
/-- What the law asks of a step. -/
theorem Stp.frm {inp : ByteArray} {x y : Mst} (h : Stp inp x y) (n : Nat) :
    dif x.g y.g 16 + dif (fun j => x.mem.getD j 0) (fun j => y.mem.getD j 0) n + (y.out.size - x.out.size) ≤ 1 ∧ x.out.size ≤ y.out.size ∧ y.out.extract 0 x.out.size = x.out
    ∧ (y.rd = x.rd ∨ (y.rd = x.rd + 1 ∧ (0 ≤ x.rd ∧ x.rd < (inp.size : Int)) ∧ dif (fun j => x.mem.getD j 0) (fun j => y.mem.getD j 0) n = 0 ∧ y.out.size = x.out.size)) ∧ (y.st = x.st ∨ y.st = x.st + 1) := by
  have ex : ∀ o : ByteArray, o.extract 0 o.size = o := fun o => by simp
  have gs : ∀ (g : Nat → Int) (a : Nat) (v : Int), dif g (gset g a v) 16 ≤ 1 := fun g a v => dif_one (a := a) (fun k hk => by unfold gset; rw [if_neg hk]) 16
  obtain ⟨pc, st, en, hs, rfl | ⟨a, v, _, hv, rfl⟩ | ⟨a, v, _, hv, hr, rfl⟩ | ⟨j, v, _, rfl⟩ | ⟨b, _, rfl⟩⟩ := h <;> dsimp only
  · exact ⟨by rw [dif_eq 16 (fun _ _ => rfl), dif_eq n (fun _ _ => rfl)]; omega, Nat.le_refl _, ex _, .inl rfl, hs⟩
  · have := gs x.g a v
    exact ⟨by rw [dif_eq n (fun _ _ => rfl)]; omega, Nat.le_refl _, ex _, .inl rfl, hs⟩
  · have := gs x.g a v
    exact ⟨by rw [dif_eq n (fun _ _ => rfl)]; omega, Nat.le_refl _, ex _, .inr ⟨rfl, hr, dif_eq n (fun _ _ => rfl), rfl⟩, hs⟩
  · have hm := dif_one (f := fun i => x.mem.getD i 0) (g := fun i => (x.mem.set j v).getD i 0) (a := j) (fun k hk => by
      simp only [List.getD_eq_getElem?_getD, List.getElem?_set]
      rw [if_neg (fun e => hk e.symm)]) n
    exact ⟨by rw [dif_eq 16 (fun _ _ => rfl)]; omega, Nat.le_refl _, ex _, .inl rfl, hs⟩
  · have hz : (x.out ++ (⟨#[b]⟩ : ByteArray)).size = x.out.size + 1 := by rw [ByteArray.size_append]; rfl
    refine ⟨by rw [dif_eq 16 (fun _ _ => rfl), dif_eq n (fun _ _ => rfl), hz]; omega, by rw [hz]; omega, ?_, .inl rfl, hs⟩
    exact ByteArray.extract_append_eq_left rfl
/-- A state and the next one, each in its box. -/
structure Fm (w W : World) (ask : Array Value) (q3 q4 n : Nat) (A A1 : Option Addr) (c c1 : Nat) (x y : Mst) : Prop where
  k : Kx none w W [(w.heap.size, .cells ask 34 (0, 0)), (q3, .cells (stc x.pc x.g (.slice A n c) x.rd x.out x.st x.en) 30 (0, 0)), (q4, .cells (stc y.pc y.g (.slice A1 n c1) y.rd y.out y.st y.en) 30 (0, 0))]
  r : Rd W A n x.mem
  r1 : Rd W A1 n y.mem
section
variable {w W : World} {ask : Array Value} {q3 q4 n : Nat} {A A1 : Option Addr} {c c1 : Nat} {x y : Mst} (h : Fm w W ask q3 q4 n A A1 c c1 x y)
include h
theorem Fm.after {W' : World} (hb : Below W.heap.size W W') : Fm w W' ask q3 q4 n A A1 c c1 x y := ⟨h.k.after hb, h.r.below hb, h.r1.below hb⟩
theorem Fm.gx {j : Nat} (hj : j < 16) : W.cell? ⟨q3, 1 + j, none⟩ = some (.int .u32 (x.g j)) := row_cell (h.k.at 1 rfl) (1 + j) (stc_get _ _ _ _ _ _ _ j hj)
theorem Fm.gy {j : Nat} (hj : j < 16) : W.cell? ⟨q4, 1 + j, none⟩ = some (.int .u32 (y.g j)) := row_cell (h.k.at 2 rfl) (1 + j) (stc_get _ _ _ _ _ _ _ j hj)
theorem Fm.mx : W.cell? ⟨q3, 17, none⟩ = some (.slice A n c) := row_cell (h.k.at 1 rfl) 17 (stc_mem _ _ _ _ _ _ _)
theorem Fm.my : W.cell? ⟨q4, 17, none⟩ = some (.slice A1 n c1) := row_cell (h.k.at 2 rfl) 17 (stc_mem _ _ _ _ _ _ _)
theorem Fm.rx : W.cell? ⟨q3, 18, none⟩ = some (.int .i64 x.rd) := row_cell (h.k.at 1 rfl) 18 (stc_rd _ _ _ _ _ _ _)
theorem Fm.ry : W.cell? ⟨q4, 18, none⟩ = some (.int .i64 y.rd) := row_cell (h.k.at 2 rfl) 18 (stc_rd _ _ _ _ _ _ _)
theorem Fm.ox : W.cell? ⟨q3, 19, none⟩ = some (.string x.out) := row_cell (h.k.at 1 rfl) 19 (stc_out _ _ _ _ _ _ _)
theorem Fm.oy : W.cell? ⟨q4, 19, none⟩ = some (.string y.out) := row_cell (h.k.at 2 rfl) 19 (stc_out _ _ _ _ _ _ _)
theorem Fm.sx : W.cell? ⟨q3, 20, none⟩ = some (.int .i64 x.st) := row_cell (h.k.at 1 rfl) 20 (stc_st _ _ _ _ _ _ _)
theorem Fm.sy : W.cell? ⟨q4, 20, none⟩ = some (.int .i64 y.st) := row_cell (h.k.at 2 rfl) 20 (stc_st _ _ _ _ _ _ _)
end
end Go.Proofs.YtgojpflkhnaedaaDoor
