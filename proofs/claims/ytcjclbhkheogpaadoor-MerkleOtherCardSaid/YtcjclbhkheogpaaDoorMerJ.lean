/- The reference's on: the contract. -/
import Derived.Test.YtcjclbhkheogpaaDoorMerG
import Derived.Deep.RegionHeld3
set_option linter.unusedVariables false
namespace Go.Proofs.YtcjclbhkheogpaaDoor
open Go.RowKit

theorem mon_ok : ∀ (m n : Nat) (old : Ws) (wh : Bool) (l : Dl), Ok4 old → Oks l → Ok4 (mon old m n wh l).1 ∧ Ok4 (mon old m n wh l).2.1 := by
  intro m n
  induction n using Nat.strongRecOn generalizing m with
  | ind n ih =>
    intro old wh l h hl
    by_cases hm : m = n
    · subst hm
      cases wh
      · by_cases h1 : l.length = 1
        · have hp : l ≠ [] := fun e => by rw [e] at h1; simp at h1
          rw [on_cut h1]; exact ⟨hl.last hp, hl.last hp⟩
        · rw [on_cut_no h1]; exact ⟨h, h⟩
      · rw [on_whole]; exact ⟨h, h⟩
    · by_cases hp : l = []
      · subst hp
        rw [on_none hm]; exact ⟨h, h⟩
      · by_cases h1 : n ≤ 1
        · rw [mon, if_neg hm, if_neg hp, dif_pos h1]; exact ⟨h, h⟩
        · have h2 : 2 ≤ n := by omega
          have k1 := hf_lt h2
          have k2 := hf_pos n
          by_cases hi : m ≤ hf n
          · rw [on_left h2 hm hp hi]
            obtain ⟨a, b⟩ := ih (hf n) k1 m old wh l.dropLast h hl.dropLast
            exact ⟨a, pair_ok0 b (hl.last hp)⟩
          · rw [on_right h2 hm hp hi]
            obtain ⟨a, b⟩ := ih (n - hf n) (by omega) (m - hf n) old false l.dropLast h hl.dropLast
            exact ⟨pair_ok0 (hl.last hp) a, pair_ok0 (hl.last hp) b⟩
def OnE (w : World) (x y : Ws) (ok : Bool) (e : Ending) (w' : World) : Prop := e = .returned (.tuple #[ag x, ag y, .bool ok]) ∧ Below w.heap.size w w'
theorem allT {p : Option Nat} {w W : World} {n3 n4 n5 : Nat} {a b c : Nat × Obj} {tv tx ty : TypeId} {v0 v1 v2 v3 x0 x1 x2 x3 y0 y1 y2 y3 : Int} (h : Kx p w W [a, b, c, (n3, .cells #[.int .u32 v0, .int .u32 v1, .int .u32 v2, .int .u32 v3] tv (0, 0)), (n4, .cells #[.int .u32 x0, .int .u32 x1, .int .u32 x2, .int .u32 x3] tx (0, 0)), (n5, .cells #[.int .u32 y0, .int .u32 y1, .int .u32 y2, .int .u32 y3] ty (0, 0))]) : W.cell? ⟨n3, 0, none⟩ = some (.int .u32 v0) ∧ W.cell? ⟨n3, 1, none⟩ = some (.int .u32 v1) ∧ W.cell? ⟨n3, 2, none⟩ = some (.int .u32 v2) ∧ W.cell? ⟨n3, 3, none⟩ = some (.int .u32 v3) ∧ W.cell? ⟨n4, 0, none⟩ = some (.int .u32 x0) ∧ W.cell? ⟨n4, 1, none⟩ = some (.int .u32 x1) ∧ W.cell? ⟨n4, 2, none⟩ = some (.int .u32 x2) ∧ W.cell? ⟨n4, 3, none⟩ = some (.int .u32 x3) ∧ W.cell? ⟨n5, 0, none⟩ = some (.int .u32 y0) ∧ W.cell? ⟨n5, 1, none⟩ = some (.int .u32 y1) ∧ W.cell? ⟨n5, 2, none⟩ = some (.int .u32 y2) ∧ W.cell? ⟨n5, 3, none⟩ = some (.int .u32 y3) := by
  obtain ⟨a0, a1, a2, a3, _⟩ := cells4 (h.at 3 rfl)
  obtain ⟨b0, b1, b2, b3, _⟩ := cells4 (h.at 4 rfl)
  obtain ⟨c0, c1, c2, c3, _⟩ := cells4 (h.at 5 rfl)
  exact ⟨a0, a1, a2, a3, b0, b1, b2, b3, c0, c1, c2, c3⟩
theorem allT1 {p : Option Nat} {w W : World} {n3 n4 n5 q : Nat} {a c : Nat × Obj} {tv tx ty tg : TypeId} {v0 v1 v2 v3 x0 x1 x2 x3 y0 y1 y2 y3 : Int} {g0 g1 g2 g3 s0 s1 s2 s3 : Value} (h : Kx p w W [a, (q, .cells #[g0, g1, g2, g3] tg (0, 0)), c, (n3, .cells #[.int .u32 v0, .int .u32 v1, .int .u32 v2, .int .u32 v3] tv (0, 0)), (n4, .cells #[.int .u32 x0, .int .u32 x1, .int .u32 x2, .int .u32 x3] tx (0, 0)), (n5, .cells #[.int .u32 y0, .int .u32 y1, .int .u32 y2, .int .u32 y3] ty (0, 0))]) (hq : p = some q ∨ w.heap.size ≤ q) : ((((W.setCell ⟨q, 0, none⟩ s0).setCell ⟨q, 1, none⟩ s1).setCell ⟨q, 2, none⟩ s2).setCell ⟨q, 3, none⟩ s3).cell? ⟨n3, 0, none⟩ = some (.int .u32 v0) ∧ ((((W.setCell ⟨q, 0, none⟩ s0).setCell ⟨q, 1, none⟩ s1).setCell ⟨q, 2, none⟩ s2).setCell ⟨q, 3, none⟩ s3).cell? ⟨n3, 1, none⟩ = some (.int .u32 v1) ∧ ((((W.setCell ⟨q, 0, none⟩ s0).setCell ⟨q, 1, none⟩ s1).setCell ⟨q, 2, none⟩ s2).setCell ⟨q, 3, none⟩ s3).cell? ⟨n3, 2, none⟩ = some (.int .u32 v2) ∧ ((((W.setCell ⟨q, 0, none⟩ s0).setCell ⟨q, 1, none⟩ s1).setCell ⟨q, 2, none⟩ s2).setCell ⟨q, 3, none⟩ s3).cell? ⟨n3, 3, none⟩ = some (.int .u32 v3) ∧ ((((W.setCell ⟨q, 0, none⟩ s0).setCell ⟨q, 1, none⟩ s1).setCell ⟨q, 2, none⟩ s2).setCell ⟨q, 3, none⟩ s3).cell? ⟨n4, 0, none⟩ = some (.int .u32 x0) ∧ ((((W.setCell ⟨q, 0, none⟩ s0).setCell ⟨q, 1, none⟩ s1).setCell ⟨q, 2, none⟩ s2).setCell ⟨q, 3, none⟩ s3).cell? ⟨n4, 1, none⟩ = some (.int .u32 x1) ∧ ((((W.setCell ⟨q, 0, none⟩ s0).setCell ⟨q, 1, none⟩ s1).setCell ⟨q, 2, none⟩ s2).setCell ⟨q, 3, none⟩ s3).cell? ⟨n4, 2, none⟩ = some (.int .u32 x2) ∧ ((((W.setCell ⟨q, 0, none⟩ s0).setCell ⟨q, 1, none⟩ s1).setCell ⟨q, 2, none⟩ s2).setCell ⟨q, 3, none⟩ s3).cell? ⟨n4, 3, none⟩ = some (.int .u32 x3) ∧ ((((W.setCell ⟨q, 0, none⟩ s0).setCell ⟨q, 1, none⟩ s1).setCell ⟨q, 2, none⟩ s2).setCell ⟨q, 3, none⟩ s3).cell? ⟨n5, 0, none⟩ = some (.int .u32 y0) ∧ ((((W.setCell ⟨q, 0, none⟩ s0).setCell ⟨q, 1, none⟩ s1).setCell ⟨q, 2, none⟩ s2).setCell ⟨q, 3, none⟩ s3).cell? ⟨n5, 1, none⟩ = some (.int .u32 y1) ∧ ((((W.setCell ⟨q, 0, none⟩ s0).setCell ⟨q, 1, none⟩ s1).setCell ⟨q, 2, none⟩ s2).setCell ⟨q, 3, none⟩ s3).cell? ⟨n5, 2, none⟩ = some (.int .u32 y2) ∧ ((((W.setCell ⟨q, 0, none⟩ s0).setCell ⟨q, 1, none⟩ s1).setCell ⟨q, 2, none⟩ s2).setCell ⟨q, 3, none⟩ s3).cell? ⟨n5, 3, none⟩ = some (.int .u32 y3) :=
  allT (h.put4 1 rfl hq s0 s1 s2 s3)
theorem allT2 {p : Option Nat} {w W : World} {n3 n4 n5 q r : Nat} {a : Nat × Obj} {tv tx ty tg th : TypeId} {v0 v1 v2 v3 x0 x1 x2 x3 y0 y1 y2 y3 : Int} {g0 g1 g2 g3 h0 h1 h2 h3 s0 s1 s2 s3 u0 u1 u2 u3 : Value} (h : Kx p w W [a, (q, .cells #[g0, g1, g2, g3] tg (0, 0)), (r, .cells #[h0, h1, h2, h3] th (0, 0)), (n3, .cells #[.int .u32 v0, .int .u32 v1, .int .u32 v2, .int .u32 v3] tv (0, 0)), (n4, .cells #[.int .u32 x0, .int .u32 x1, .int .u32 x2, .int .u32 x3] tx (0, 0)), (n5, .cells #[.int .u32 y0, .int .u32 y1, .int .u32 y2, .int .u32 y3] ty (0, 0))]) (hq : p = some q ∨ w.heap.size ≤ q) (hr : p = some r ∨ w.heap.size ≤ r) : ((((((((W.setCell ⟨q, 0, none⟩ s0).setCell ⟨q, 1, none⟩ s1).setCell ⟨q, 2, none⟩ s2).setCell ⟨q, 3, none⟩ s3).setCell ⟨r, 0, none⟩ u0).setCell ⟨r, 1, none⟩ u1).setCell ⟨r, 2, none⟩ u2).setCell ⟨r, 3, none⟩ u3).cell? ⟨n3, 0, none⟩ = some (.int .u32 v0) ∧ ((((((((W.setCell ⟨q, 0, none⟩ s0).setCell ⟨q, 1, none⟩ s1).setCell ⟨q, 2, none⟩ s2).setCell ⟨q, 3, none⟩ s3).setCell ⟨r, 0, none⟩ u0).setCell ⟨r, 1, none⟩ u1).setCell ⟨r, 2, none⟩ u2).setCell ⟨r, 3, none⟩ u3).cell? ⟨n3, 1, none⟩ = some (.int .u32 v1) ∧ ((((((((W.setCell ⟨q, 0, none⟩ s0).setCell ⟨q, 1, none⟩ s1).setCell ⟨q, 2, none⟩ s2).setCell ⟨q, 3, none⟩ s3).setCell ⟨r, 0, none⟩ u0).setCell ⟨r, 1, none⟩ u1).setCell ⟨r, 2, none⟩ u2).setCell ⟨r, 3, none⟩ u3).cell? ⟨n3, 2, none⟩ = some (.int .u32 v2) ∧ ((((((((W.setCell ⟨q, 0, none⟩ s0).setCell ⟨q, 1, none⟩ s1).setCell ⟨q, 2, none⟩ s2).setCell ⟨q, 3, none⟩ s3).setCell ⟨r, 0, none⟩ u0).setCell ⟨r, 1, none⟩ u1).setCell ⟨r, 2, none⟩ u2).setCell ⟨r, 3, none⟩ u3).cell? ⟨n3, 3, none⟩ = some (.int .u32 v3) ∧ ((((((((W.setCell ⟨q, 0, none⟩ s0).setCell ⟨q, 1, none⟩ s1).setCell ⟨q, 2, none⟩ s2).setCell ⟨q, 3, none⟩ s3).setCell ⟨r, 0, none⟩ u0).setCell ⟨r, 1, none⟩ u1).setCell ⟨r, 2, none⟩ u2).setCell ⟨r, 3, none⟩ u3).cell? ⟨n4, 0, none⟩ = some (.int .u32 x0) ∧ ((((((((W.setCell ⟨q, 0, none⟩ s0).setCell ⟨q, 1, none⟩ s1).setCell ⟨q, 2, none⟩ s2).setCell ⟨q, 3, none⟩ s3).setCell ⟨r, 0, none⟩ u0).setCell ⟨r, 1, none⟩ u1).setCell ⟨r, 2, none⟩ u2).setCell ⟨r, 3, none⟩ u3).cell? ⟨n4, 1, none⟩ = some (.int .u32 x1) ∧ ((((((((W.setCell ⟨q, 0, none⟩ s0).setCell ⟨q, 1, none⟩ s1).setCell ⟨q, 2, none⟩ s2).setCell ⟨q, 3, none⟩ s3).setCell ⟨r, 0, none⟩ u0).setCell ⟨r, 1, none⟩ u1).setCell ⟨r, 2, none⟩ u2).setCell ⟨r, 3, none⟩ u3).cell? ⟨n4, 2, none⟩ = some (.int .u32 x2) ∧ ((((((((W.setCell ⟨q, 0, none⟩ s0).setCell ⟨q, 1, none⟩ s1).setCell ⟨q, 2, none⟩ s2).setCell ⟨q, 3, none⟩ s3).setCell ⟨r, 0, none⟩ u0).setCell ⟨r, 1, none⟩ u1).setCell ⟨r, 2, none⟩ u2).setCell ⟨r, 3, none⟩ u3).cell? ⟨n4, 3, none⟩ = some (.int .u32 x3) ∧ ((((((((W.setCell ⟨q, 0, none⟩ s0).setCell ⟨q, 1, none⟩ s1).setCell ⟨q, 2, none⟩ s2).setCell ⟨q, 3, none⟩ s3).setCell ⟨r, 0, none⟩ u0).setCell ⟨r, 1, none⟩ u1).setCell ⟨r, 2, none⟩ u2).setCell ⟨r, 3, none⟩ u3).cell? ⟨n5, 0, none⟩ = some (.int .u32 y0) ∧ ((((((((W.setCell ⟨q, 0, none⟩ s0).setCell ⟨q, 1, none⟩ s1).setCell ⟨q, 2, none⟩ s2).setCell ⟨q, 3, none⟩ s3).setCell ⟨r, 0, none⟩ u0).setCell ⟨r, 1, none⟩ u1).setCell ⟨r, 2, none⟩ u2).setCell ⟨r, 3, none⟩ u3).cell? ⟨n5, 1, none⟩ = some (.int .u32 y1) ∧ ((((((((W.setCell ⟨q, 0, none⟩ s0).setCell ⟨q, 1, none⟩ s1).setCell ⟨q, 2, none⟩ s2).setCell ⟨q, 3, none⟩ s3).setCell ⟨r, 0, none⟩ u0).setCell ⟨r, 1, none⟩ u1).setCell ⟨r, 2, none⟩ u2).setCell ⟨r, 3, none⟩ u3).cell? ⟨n5, 2, none⟩ = some (.int .u32 y2) ∧ ((((((((W.setCell ⟨q, 0, none⟩ s0).setCell ⟨q, 1, none⟩ s1).setCell ⟨q, 2, none⟩ s2).setCell ⟨q, 3, none⟩ s3).setCell ⟨r, 0, none⟩ u0).setCell ⟨r, 1, none⟩ u1).setCell ⟨r, 2, none⟩ u2).setCell ⟨r, 3, none⟩ u3).cell? ⟨n5, 3, none⟩ = some (.int .u32 y3) :=
  allT ((h.put4 1 rfl hq s0 s1 s2 s3).put4 2 rfl hr u0 u1 u2 u3)

end Go.Proofs.YtcjclbhkheogpaaDoor
