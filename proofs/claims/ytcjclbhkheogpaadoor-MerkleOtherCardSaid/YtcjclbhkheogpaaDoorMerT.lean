/- CheckOn, the code's and the reference's: the contracts; they tell the same. -/
import Derived.Test.YtcjclbhkheogpaaDoorMerP
import Derived.Test.YtcjclbhkheogpaaDoorMerQ
set_option linter.unusedVariables false
namespace Go.Proofs.YtcjclbhkheogpaaDoor
open Go.RowKit

def chkOn (old : Ws) (m : Nat) (root : Ws) (n : Nat) (l : Dl) : Bool := (mrts m n old true l).2.1 && ((mrts m n old true l).2.2.length == 0) && sameP (mrts m n old true l).1.1 (mrts m n old true l).1.2 old root
def chkOnr (old : Ws) (m : Nat) (root : Ws) (n : Nat) (l : Dl) : Bool := (mon old m n true l).2.2 && same (mon old m n true l).1 old && same (mon old m n true l).2.1 root
theorem chkOn_same (old : Ws) (m : Nat) (root : Ws) (n : Nat) (l : Dl) (h1 : 1 ≤ m) (hmn : m ≤ n) : chkOn old m root n l = chkOnr old m root n l := by
  obtain ⟨h, h2⟩ := rts_on n m old true l h1 hmn
  unfold chkOn chkOnr
  have e : ((mrts m n old true l).2.2.length == 0) = (mrts m n old true l).2.2.isEmpty := by cases (mrts m n old true l).2.2 <;> simp
  rw [e]
  cases hk : (mon old m n true l).2.2
  · rw [hk] at h
    rw [← h]; simp
  · obtain ⟨a, b⟩ := h2 hk
    rw [hk] at h
    rw [← h, a, b, sameP]; simp
theorem chkOn_long (old : Ws) (m : Nat) (root : Ws) (n : Nat) (l : Dl) (h1 : 1 ≤ m) (hmn : m ≤ n) (hn : n ≤ 1000) (hl : 20 < l.length) : chkOn old m root n l = false := by
  have h := rts_left_over 10 n m old true l (by omega) h1 hmn
  unfold chkOn
  cases hk : (mrts m n old true l).2.1
  · simp
  · have := h hk
    have e : ((mrts m n old true l).2.2.length == 0) = false := by rw [beq_eq_false_iff_ne]; omega
    rw [e]; simp
end Go.Proofs.YtcjclbhkheogpaaDoor
