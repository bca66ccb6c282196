/- (*rest).roots: the contract. -/
import Derived.Test.YtcjclbhkheogpaaDoorMerF
import Derived.Deep.RegionHeld3
set_option linter.unusedVariables false
namespace Go.Proofs.YtcjclbhkheogpaaDoor
open Go.RowKit

theorem mrts_ok : ∀ (m n : Nat) (old : Ws) (wh : Bool) (l : Dl), Ok4 old → Oks l → Ok4 (mrts m n old wh l).1.1 ∧ Ok4 (mrts m n old wh l).1.2 := by
  intro m n
  induction n using Nat.strongRecOn generalizing m with
  | ind n ih =>
    intro old wh l h hl
    by_cases hw : m = n ∧ wh = true
    · obtain ⟨rfl, rfl⟩ := hw
      rw [rts_whole]; exact ⟨h, h⟩
    · by_cases hp : l = []
      · subst hp
        rw [rts_none hw]; exact ⟨zero4_ok, zero4_ok⟩
      · by_cases hm : m = n
        · subst hm
          cases wh
          · rw [rts_cut hp]; exact ⟨hl.last hp, hl.last hp⟩
          · exact absurd ⟨rfl, rfl⟩ hw
        · by_cases h1 : n ≤ 1
          · rw [mrts, if_neg hw, if_neg hp, if_neg hm, dif_pos h1]; exact ⟨zero4_ok, zero4_ok⟩
          · have h2 : 2 ≤ n := by omega
            have k1 := hf_lt h2
            have k2 := hf_pos n
            by_cases hi : m ≤ hf n
            · rw [rts_left h2 hm hp hi]
              obtain ⟨a, b⟩ := ih (hf n) k1 m old wh l.dropLast h hl.dropLast
              exact ⟨a, pair_ok0 b (hl.last hp)⟩
            · rw [rts_right h2 hm hp hi]
              obtain ⟨a, b⟩ := ih (n - hf n) (by omega) (m - hf n) old false l.dropLast h hl.dropLast
              exact ⟨pair_ok0 (hl.last hp) a, pair_ok0 (hl.last hp) b⟩
theorem ag44 (a0 a1 a2 a3 b0 b1 b2 b3 : Int) : ag ([a0, a1, a2, a3] ++ [b0, b1, b2, b3]) = .agg #[.int .u32 a0, .int .u32 a1, .int .u32 a2, .int .u32 a3, .int .u32 b0, .int .u32 b1, .int .u32 b2, .int .u32 b3] := rfl
def RtsE (w : World) (p : Nat) (A : Option Addr) (cap : Nat) (x y : Ws) (ok : Bool) (left : Nat) (e : Ending) (w' : World) : Prop :=
  e = .returned (.tuple #[ag (x ++ y), .bool ok]) ∧ Bx (some p) w w' ∧ w'.heap[p]? = some (restO (.slice A left cap))
theorem allS {p : Option Nat} {w W : World} {n3 n4 : Nat} {a b c : Nat × Obj} {t u : TypeId} {v0 v1 v2 v3 x0 x1 x2 x3 y0 y1 y2 y3 : Int} (h : Kx p w W [a, b, c, (n3, .cells #[.int .u32 v0, .int .u32 v1, .int .u32 v2, .int .u32 v3] t (0, 0)), (n4, .cells #[.int .u32 x0, .int .u32 x1, .int .u32 x2, .int .u32 x3, .int .u32 y0, .int .u32 y1, .int .u32 y2, .int .u32 y3] u (0, 0))]) : W.cell? ⟨n3, 0, none⟩ = some (.int .u32 v0) ∧ W.cell? ⟨n3, 1, none⟩ = some (.int .u32 v1) ∧ W.cell? ⟨n3, 2, none⟩ = some (.int .u32 v2) ∧ W.cell? ⟨n3, 3, none⟩ = some (.int .u32 v3) ∧ W.cell? ⟨n4, 0, none⟩ = some (.int .u32 x0) ∧ W.cell? ⟨n4, 1, none⟩ = some (.int .u32 x1) ∧ W.cell? ⟨n4, 2, none⟩ = some (.int .u32 x2) ∧ W.cell? ⟨n4, 3, none⟩ = some (.int .u32 x3) ∧ W.cell? ⟨n4, 4, none⟩ = some (.int .u32 y0) ∧ W.cell? ⟨n4, 5, none⟩ = some (.int .u32 y1) ∧ W.cell? ⟨n4, 6, none⟩ = some (.int .u32 y2) ∧ W.cell? ⟨n4, 7, none⟩ = some (.int .u32 y3) := by
  obtain ⟨a0, a1, a2, a3, _⟩ := cells4 (h.at 3 rfl)
  obtain ⟨b0, b1, b2, b3, b4, b5, b6, b7, _⟩ := cells8 (h.at 4 rfl)
  exact ⟨a0, a1, a2, a3, b0, b1, b2, b3, b4, b5, b6, b7⟩
theorem allS2 {p : Option Nat} {w W : World} {n3 n4 q : Nat} {a b : Nat × Obj} {t u r : TypeId} {s0 s1 s2 s3 s4 s5 s6 s7 g0 g1 g2 g3 g4 g5 g6 g7 : Value} {v0 v1 v2 v3 x0 x1 x2 x3 y0 y1 y2 y3 : Int} (h : Kx p w W [a, b, (q, .cells #[g0, g1, g2, g3, g4, g5, g6, g7] r (0, 0)), (n3, .cells #[.int .u32 v0, .int .u32 v1, .int .u32 v2, .int .u32 v3] t (0, 0)), (n4, .cells #[.int .u32 x0, .int .u32 x1, .int .u32 x2, .int .u32 x3, .int .u32 y0, .int .u32 y1, .int .u32 y2, .int .u32 y3] u (0, 0))]) (hq : p = some q ∨ w.heap.size ≤ q) : ((((((((W.setCell ⟨q, 0, none⟩ s0).setCell ⟨q, 1, none⟩ s1).setCell ⟨q, 2, none⟩ s2).setCell ⟨q, 3, none⟩ s3).setCell ⟨q, 4, none⟩ s4).setCell ⟨q, 5, none⟩ s5).setCell ⟨q, 6, none⟩ s6).setCell ⟨q, 7, none⟩ s7).cell? ⟨n3, 0, none⟩ = some (.int .u32 v0) ∧ ((((((((W.setCell ⟨q, 0, none⟩ s0).setCell ⟨q, 1, none⟩ s1).setCell ⟨q, 2, none⟩ s2).setCell ⟨q, 3, none⟩ s3).setCell ⟨q, 4, none⟩ s4).setCell ⟨q, 5, none⟩ s5).setCell ⟨q, 6, none⟩ s6).setCell ⟨q, 7, none⟩ s7).cell? ⟨n3, 1, none⟩ = some (.int .u32 v1) ∧ ((((((((W.setCell ⟨q, 0, none⟩ s0).setCell ⟨q, 1, none⟩ s1).setCell ⟨q, 2, none⟩ s2).setCell ⟨q, 3, none⟩ s3).setCell ⟨q, 4, none⟩ s4).setCell ⟨q, 5, none⟩ s5).setCell ⟨q, 6, none⟩ s6).setCell ⟨q, 7, none⟩ s7).cell? ⟨n3, 2, none⟩ = some (.int .u32 v2) ∧ ((((((((W.setCell ⟨q, 0, none⟩ s0).setCell ⟨q, 1, none⟩ s1).setCell ⟨q, 2, none⟩ s2).setCell ⟨q, 3, none⟩ s3).setCell ⟨q, 4, none⟩ s4).setCell ⟨q, 5, none⟩ s5).setCell ⟨q, 6, none⟩ s6).setCell ⟨q, 7, none⟩ s7).cell? ⟨n3, 3, none⟩ = some (.int .u32 v3) ∧ ((((((((W.setCell ⟨q, 0, none⟩ s0).setCell ⟨q, 1, none⟩ s1).setCell ⟨q, 2, none⟩ s2).setCell ⟨q, 3, none⟩ s3).setCell ⟨q, 4, none⟩ s4).setCell ⟨q, 5, none⟩ s5).setCell ⟨q, 6, none⟩ s6).setCell ⟨q, 7, none⟩ s7).cell? ⟨n4, 0, none⟩ = some (.int .u32 x0) ∧ ((((((((W.setCell ⟨q, 0, none⟩ s0).setCell ⟨q, 1, none⟩ s1).setCell ⟨q, 2, none⟩ s2).setCell ⟨q, 3, none⟩ s3).setCell ⟨q, 4, none⟩ s4).setCell ⟨q, 5, none⟩ s5).setCell ⟨q, 6, none⟩ s6).setCell ⟨q, 7, none⟩ s7).cell? ⟨n4, 1, none⟩ = some (.int .u32 x1) ∧ ((((((((W.setCell ⟨q, 0, none⟩ s0).setCell ⟨q, 1, none⟩ s1).setCell ⟨q, 2, none⟩ s2).setCell ⟨q, 3, none⟩ s3).setCell ⟨q, 4, none⟩ s4).setCell ⟨q, 5, none⟩ s5).setCell ⟨q, 6, none⟩ s6).setCell ⟨q, 7, none⟩ s7).cell? ⟨n4, 2, none⟩ = some (.int .u32 x2) ∧ ((((((((W.setCell ⟨q, 0, none⟩ s0).setCell ⟨q, 1, none⟩ s1).setCell ⟨q, 2, none⟩ s2).setCell ⟨q, 3, none⟩ s3).setCell ⟨q, 4, none⟩ s4).setCell ⟨q, 5, none⟩ s5).setCell ⟨q, 6, none⟩ s6).setCell ⟨q, 7, none⟩ s7).cell? ⟨n4, 3, none⟩ = some (.int .u32 x3) ∧ ((((((((W.setCell ⟨q, 0, none⟩ s0).setCell ⟨q, 1, none⟩ s1).setCell ⟨q, 2, none⟩ s2).setCell ⟨q, 3, none⟩ s3).setCell ⟨q, 4, none⟩ s4).setCell ⟨q, 5, none⟩ s5).setCell ⟨q, 6, none⟩ s6).setCell ⟨q, 7, none⟩ s7).cell? ⟨n4, 4, none⟩ = some (.int .u32 y0) ∧ ((((((((W.setCell ⟨q, 0, none⟩ s0).setCell ⟨q, 1, none⟩ s1).setCell ⟨q, 2, none⟩ s2).setCell ⟨q, 3, none⟩ s3).setCell ⟨q, 4, none⟩ s4).setCell ⟨q, 5, none⟩ s5).setCell ⟨q, 6, none⟩ s6).setCell ⟨q, 7, none⟩ s7).cell? ⟨n4, 5, none⟩ = some (.int .u32 y1) ∧ ((((((((W.setCell ⟨q, 0, none⟩ s0).setCell ⟨q, 1, none⟩ s1).setCell ⟨q, 2, none⟩ s2).setCell ⟨q, 3, none⟩ s3).setCell ⟨q, 4, none⟩ s4).setCell ⟨q, 5, none⟩ s5).setCell ⟨q, 6, none⟩ s6).setCell ⟨q, 7, none⟩ s7).cell? ⟨n4, 6, none⟩ = some (.int .u32 y2) ∧ ((((((((W.setCell ⟨q, 0, none⟩ s0).setCell ⟨q, 1, none⟩ s1).setCell ⟨q, 2, none⟩ s2).setCell ⟨q, 3, none⟩ s3).setCell ⟨q, 4, none⟩ s4).setCell ⟨q, 5, none⟩ s5).setCell ⟨q, 6, none⟩ s6).setCell ⟨q, 7, none⟩ s7).cell? ⟨n4, 7, none⟩ = some (.int .u32 y3) :=
  allS (h.put8 2 rfl hq s0 s1 s2 s3 s4 s5 s6 s7)

end Go.Proofs.YtcjclbhkheogpaaDoor
