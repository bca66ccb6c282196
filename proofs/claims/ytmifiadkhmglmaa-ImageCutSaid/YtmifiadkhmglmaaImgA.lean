/- The reference of layer 8: the contracts of Right and Same. -/
import Derived.Test.YtmifiadkhmglmaaImgM
import Derived.Test.YtmifiadkhmglmaaRdW
import Derived.Test.YtmifiadkhmglmaaKx
import Derived.Deep.RegionHeld3
set_option linter.unusedVariables false
namespace Go.Proofs.Ytmifiadkhmglmaa
open Go.RowKit

/-- A value is an image: its code, its Data. -/
def ImV (w : World) (v : Value) (code : List Int) (d : Int) : Prop := ∃ A n c, v = .agg #[.slice A n c, .int .i64 d] ∧ Rd w A n code ∧ n ≤ c ∧ c ≤ maxLen
theorem ImV.kept {w w' : World} {v : Value} {code : List Int} {d : Int} (h : ImV w v code d) (hb : Below w.heap.size w w') : ImV w' v code d := by
  obtain ⟨A, n, c, hv, hr, h1, h2⟩ := h
  exact ⟨A, n, c, hv, hr.below hb, h1, h2⟩
theorem cells2 {w : World} {b : Nat} {t : TypeId} {v0 v1 : Value} (h : w.heap[b]? = some (.cells #[v0, v1] t (0, 0))) :
    w.cell? ⟨b, 0, none⟩ = some v0 ∧ w.cell? ⟨b, 1, none⟩ = some v1 ∧ w.frozen? ⟨b, 0, none⟩ = false ∧ w.frozen? ⟨b, 1, none⟩ = false := by
  simp [World.cell?, World.frozen?, h]
theorem row2 {w : World} {b : Nat} {t : TypeId} {u0 u1 : Value} (h : w.heap[b]? = some (.cells #[u0, u1] t (0, 0))) (v0 v1 : Value) :
    ((w.setCell ⟨b, 0, none⟩ v0).setCell ⟨b, 1, none⟩ v1).heap[b]? = some (.cells #[v0, v1] t (0, 0)) := by
  have e0 := heap_setCell_same w b 0 _ t v0 h
  have e1 := heap_setCell_same _ b 1 _ t v1 e0
  simpa using e1
theorem Kx.put2 {p : Option Nat} {w W : World} {bs : List (Nat × Obj)} (h : Kx p w W bs) (i : Nat) {q : Nat} {t : TypeId} {u0 u1 : Value} (hx : bs[i]? = some (q, .cells #[u0, u1] t (0, 0))) (hq : p = some q ∨ w.heap.size ≤ q) (v0 v1 : Value) :
    Kx p w ((W.setCell ⟨q, 0, none⟩ v0).setCell ⟨q, 1, none⟩ v1) (bs.set i (q, .cells #[v0, v1] t (0, 0))) :=
  h.afterq i hx hq ((Bx.set W q 0 v0).setn 1 v1) (row2 (h.at i hx) v0 v1)
theorem Rd.kx {w W : World} {bs : List (Nat × Obj)} {A : Option Addr} {n : Nat} {l : List Int} (h : Rd w A n l) (hk : Kx none w W bs) : Rd W A n l := h.below hk.be.plain
/-- The cell of one of the words. -/
theorem Rd.cell {w : World} {A : Option Addr} {n : Nat} {l : List Int} (h : Rd w A n l) {j : Nat} (hj : j < n) : ∃ b off, A = some ⟨b, off, none⟩ ∧ w.cell? ⟨b, off + j, none⟩ = some (.int .u32 (l.getD j 0)) := by
  rcases h.2.1 with h0 | ⟨b, off, hA, _, hc⟩
  · omega
  · exact ⟨b, off, hA, hc j hj⟩
set_option maxHeartbeats 1000000 in
theorem right8_ref {A : Option Addr} {n c : Nat} {d : Int} (code : List Int) (w : World) (hn : code.length = n) (hn2 : n ≤ 9223372036854775807) :
    Calls Try.prog 12 #[.agg #[.slice A n c, .int .i64 d]] w fun e w' => e = .returned (.bool (irt code d)) ∧ Below w.heap.size w w' := by
  have HK := Lib.hid ((Kx.nil none w).more (.cells #[.slice A n c, .int .i64 d] 24 (0, 0)))
  obtain ⟨a0, a1, _⟩ := cells2 (HK.out.at 0 rfl)
  by_cases h1 : code.length ≤ 16384
  · have i1 : (n : Int) ≤ 16384 := by omega
    by_cases h2 : 0 ≤ d
    · by_cases h3 : d ≤ 32768
      · have e : irt code d = true := by simp [irt, h1, h2, h3]
        rw [e]
        go_enter Try.func12, Try.ntmps12
        go_wp2_with fail
        go_ret
        exact ⟨rfl, HK.out.be.plain⟩
      · have e : irt code d = false := by simp [irt, h3]
        have i3 : decide (d ≤ 32768) = false := decide_eq_false h3
        rw [e]
        go_enter Try.func12, Try.ntmps12
        go_wp2_with fail
        go_ret
        exact ⟨rfl, HK.out.be.plain⟩
    · have e : irt code d = false := by simp [irt, h2]
      have i2 : decide (0 ≤ d) = false := decide_eq_false h2
      rw [e]
      go_enter Try.func12, Try.ntmps12
      go_wp2_with fail
      go_ret
      exact ⟨rfl, HK.out.be.plain⟩
  · have e : irt code d = false := by simp [irt, h1]
    have i1 : decide ((n : Int) ≤ 16384) = false := decide_eq_false (by omega)
    rw [e]
    go_enter Try.func12, Try.ntmps12
    go_wp2_with fail
    go_ret
    exact ⟨rfl, HK.out.be.plain⟩
end Go.Proofs.Ytmifiadkhmglmaa
