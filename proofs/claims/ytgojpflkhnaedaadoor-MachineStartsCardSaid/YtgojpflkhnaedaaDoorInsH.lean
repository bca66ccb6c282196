/- Layer 7's own code: Encode and Decode. -/
import Derived.Test.YtgojpflkhnaedaaDoorInsG
import Derived.Test.YtgojpflkhnaedaaDoorInsC
import Derived.Test.YtgojpflkhnaedaaDoorInsF
set_option linter.unusedVariables false
namespace Go.Proofs.YtgojpflkhnaedaaDoor
open Go.RowKit

theorem wraps_i62 (n : Int) (h₀ : 0 ≤ n) (h₁ : n < 2 ^ 62) : IntKind.i64.wrap n = n := by rw [IntKind.wrap_i64]; omega
theorem enc_or {op a b c : Int} (h : (1 ≤ op ∧ op ≤ 27) ∧ (0 ≤ a ∧ a ≤ 15) ∧ (0 ≤ b ∧ b ≤ 15) ∧ 0 ≤ c ∧ c ≤ 65535) :
    bits .or .i64 (bits .or .i64 (bits .or .i64 (wrap64 (op * 16777216)) (wrap64 (a * 1048576))) (wrap64 (b * 65536))) c % 4294967296 = enc op a b c := by
  have e1 : wrap64 (op * 16777216) = op * 16777216 := by unfold wrap64; omega
  have e2 : wrap64 (a * 1048576) = a * 1048576 := by unfold wrap64; omega
  have e3 : wrap64 (b * 65536) = b * 65536 := by unfold wrap64; omega
  rw [e1, e2, e3]
  rw [bits_join .i64 62 (by decide) wraps_i62 24 (op * 16777216) (a * 1048576) (by omega) (by omega) (by omega) (by omega) (by omega) (by omega)]
  rw [bits_join .i64 62 (by decide) wraps_i62 20 (op * 16777216 + a * 1048576) (b * 65536) (by omega) (by omega) (by omega) (by omega) (by omega) (by omega)]
  rw [bits_join .i64 62 (by decide) wraps_i62 16 (op * 16777216 + a * 1048576 + b * 65536) c (by omega) (by omega) (by omega) (by omega) (by omega) (by omega)]
  unfold enc
  omega

set_option maxHeartbeats 2000000 in
theorem decode7 (v : Int) (w : World) (h0 : 0 ≤ v) (h1 : v < 4294967296) (ht : Tabs w) :
    Calls Tryd.prog 22 #[.int .u32 v] w fun e w' => e = .returned (.tuple #[.agg (dcd v), .int .i64 (dce v)]) ∧ Below w.heap.size w w' := by
  obtain ⟨o, ho⟩ : ∃ o, v / 16777216 = o := ⟨_, rfl⟩
  obtain ⟨a, ha⟩ : ∃ a, v / 1048576 % 16 = a := ⟨_, rfl⟩
  obtain ⟨b, hb⟩ : ∃ b, v / 65536 % 16 = b := ⟨_, rfl⟩
  obtain ⟨c, hc⟩ : ∃ c, v % 65536 = c := ⟨_, rfl⟩
  have c1 := fun w ht => right_code o a b c w ht
  have f1 := low15 (v / 1048576) (by omega) (by omega)
  have f2 := low15 (v / 65536) (by omega) (by omega)
  have HT := Lib.hid (fun o₁ o₂ => (ht.below (new_below w o₁)).below (new_below _ o₂))
  unfold dcd dce
  rw [ho, ha, hb, hc]
  rw [ha] at f1
  rw [hb] at f2
  have f3 := low65535 v h0 h1
  rw [hc] at f3
  have hk := ((Kx.nil none w).more (.cells #[.int .i64 0, .int .i64 0, .int .i64 0, .int .i64 0] 40 (0, 0))).add (w.heap.size + 1) (by simp) (.cells #[.int .i64 o, .int .i64 a, .int .i64 b, .int .i64 c] 40 (0, 0))
  have r0 : 0 ≤ o ∧ o < 256 := by omega
  have r1 : 0 ≤ a ∧ a < 16 := by omega
  have r2 : 0 ≤ b ∧ b < 16 := by omega
  have r3 : 0 ≤ c ∧ c < 65536 := by omega
  obtain ⟨m0, m1⟩ := r0
  obtain ⟨m2, m3⟩ := r1
  obtain ⟨m4, m5⟩ := r2
  obtain ⟨m6, m7⟩ := r3
  cases hr : rgt o a b c with
  | false =>
    rw [hr] at c1
    have C1 := Lib.hid c1
    have HK := Lib.hid hk
    simp only [Bool.false_eq_true, if_false]
    clear c1 hr hk ht ha hb hc
    go_enter Tryd.func22, Tryd.ntmps22
    go_wp2_with fail
    with_reducible refine (C1.out _ ?ht).mono ?_
    case ht => exact HT.out _ _
    rintro e w1 ⟨rfl, hb⟩
    replace HK := Lib.hid (HK.out.after hb)
    clear hb
    obtain ⟨a0, a1, a2, a3, d0, d1, d2, d3⟩ := cells4 (HK.out.at 0 rfl)
    have HE := Lib.hid (HK.out.put4 0 rfl (.inr (Nat.le_refl _)) (.int .i64 0) (.int .i64 0) (.int .i64 0) (.int .i64 0))
    go_wp2_with fail
    exact bodyPost_ret (v := .tuple #[.agg #[.int .i64 0, .int .i64 0, .int .i64 0, .int .i64 0], .int .i64 7]) (by
      obtain ⟨k0, k1, k2, k3, _⟩ := cells4 (HE.out.at 0 rfl)
      simp [results, go_sem, k0, k1, k2, k3]) rfl ⟨rfl, HE.out.be.plain⟩
  | true =>
    rw [hr] at c1
    have C1 := Lib.hid c1
    have HK := Lib.hid hk
    simp only [if_true]
    clear c1 hr hk ht ha hb hc
    go_enter Tryd.func22, Tryd.ntmps22
    go_wp2_with fail
    with_reducible refine (C1.out _ ?ht).mono ?_
    case ht => exact HT.out _ _
    rintro e w1 ⟨rfl, hb⟩
    replace HK := Lib.hid (HK.out.after hb)
    clear hb
    obtain ⟨a0, a1, a2, a3, d0, d1, d2, d3⟩ := cells4 (HK.out.at 0 rfl)
    obtain ⟨b0, b1, b2, b3, _⟩ := cells4 (HK.out.at 1 rfl)
    have HE := Lib.hid (HK.out.put4 0 rfl (.inr (Nat.le_refl _)) (.int .i64 o) (.int .i64 a) (.int .i64 b) (.int .i64 c))
    go_wp2_with fail
    exact bodyPost_ret (v := .tuple #[.agg #[.int .i64 o, .int .i64 a, .int .i64 b, .int .i64 c], .int .i64 0]) (by
      obtain ⟨k0, k1, k2, k3, _⟩ := cells4 (HE.out.at 0 rfl)
      simp [results, go_sem, k0, k1, k2, k3]) rfl ⟨rfl, HE.out.be.plain⟩
end Go.Proofs.YtgojpflkhnaedaaDoor
