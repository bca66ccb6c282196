/- The reference's Root and way: the contracts. -/
import Derived.Test.YtcjclbhkheogpaaDoorMerC
import Derived.Test.YtcjclbhkheogpaaDoorDigQ
set_option linter.unusedVariables false
namespace Go.Proofs.YtcjclbhkheogpaaDoor
open Go.RowKit

set_option maxRecDepth 100000 in
set_option maxHeartbeats 2000000 in
theorem root_ref : ∀ n, RootAt 18 n := by
  intro n
  induction n using Nat.strongRecOn with
  | ind n ih =>
    intro l b off cap w hl h1 hn hc hm hr ht
    have hbw := hr.lt
    have hne : w.heap.size ≠ b := by omega
    by_cases h2 : n = 1
    · subst h2
      obtain ⟨v0, v1, v2, v3, hj, _⟩ := hr.get (j := 0) (by omega)
      have hroot : mroot l = [v0, v1, v2, v3] := by
        rw [root_small (by omega)]
        match l, hl, hj with
        | [x], _, hj => simpa using hj
      rw [hroot, ag4]
      obtain ⟨c0, c1, c2, c3⟩ := hr.zero hj
      clear hroot hj hr hl ih ht
      go_enter Tryd.func18, Tryd.ntmps18
      go_wp2_with fail
      exact bodyPost_ret (v := .agg #[.int .u32 v0, .int .u32 v1, .int .u32 v2, .int .u32 v3]) (by simp [results, go_sem]) rfl ⟨rfl, (Below.refl _ _).alloc (Nat.le_refl _) _⟩
    · have h2 : 2 ≤ n := by omega
      have k1 := hf_lt h2
      have k2 := hf_pos n
      have o1 : Ok4 (mroot (l.take (hf n))) := (hr.ok.take _).mroot
      have o2 : Ok4 (mroot (l.drop (hf n))) := (hr.ok.drop _).mroot
      have o3 : Ok4 (mroot l) := hr.ok.mroot
      have hp := root_two (l := l) (by omega)
      rw [hl] at hp
      rw [hp] at o3 ⊢
      clear hp
      have c5 := fun w => pair_ref (mroot (l.take (hf n))) (mroot (l.drop (hf n))) w o1 o2
      have C := fun w => half_ref n w h2 (by omega)
      have c1 := fun w => ih (hf n) k1 (l.take (hf n)) b off cap w (by rw [List.length_take]; omega) k2 (by omega) (by omega) hm
      have c2 := fun w => ih (n - hf n) (by omega) (l.drop (hf n)) b (off + hf n * 4) (cap - hf n) w (by rw [List.length_drop, hl]) (by omega) (by omega) (by omega) (by omega)
      have r1 := hr.take (hf n)
      have r2 := hr.drop (hf n)
      obtain ⟨x0, x1, x2, x3, e1, _⟩ := ok4 o1
      obtain ⟨y0, y1, y2, y3, e2, _⟩ := ok4 o2
      rw [e1, e2] at c5 o3 ⊢
      obtain ⟨z0, z1, z2, z3, e3, _⟩ := ok4 o3
      rw [e3] at c5 ⊢
      rw [ag4, ag4, ag4] at c5
      rw [e1, ag4] at c1
      rw [e2, ag4] at c2
      rw [ag4]
      obtain ⟨k, hk⟩ : ∃ k, hf n = k := ⟨_, rfl⟩
      rw [hk] at C c1 c2 k1 k2 r1 r2
      have i0 : (n == 1) = false := by rw [beq_eq_false_iff_ne]; omega
      have i1 : (n == 0) = false := by rw [beq_eq_false_iff_ne]; omega
      have i2 : ((n : Int) == 1) = false := by rw [beq_eq_false_iff_ne]; omega
      have i3 : ((n : Int) == 0) = false := by rw [beq_eq_false_iff_ne]; omega
      have i4 : ¬ cap = k := by omega
      have i5 : k ≤ cap := by omega
      have i6 : k ≤ n := by omega
      have HC := Lib.hid C
      have C1 := Lib.hid c1
      have C2 := Lib.hid c2
      have C5 := Lib.hid c5
      have HR1 := Lib.hid r1
      have HR2 := Lib.hid r2
      have HT := Lib.hid ht
      have HK := Lib.hid ((Kx.nil none w).more (.cells #[.int .u32 0, .int .u32 0, .int .u32 0, .int .u32 0] 26 (0, 0))).drew
      clear C c1 c2 c5 hr ht e1 e2 e3 o1 o2 o3 hl ih r1 r2 hk
      go_enter Tryd.func18, Tryd.ntmps18
      go_wp2_with fail
      refine (HC.out _).mono ?_
      rintro e w1 ⟨rfl, rfl⟩
      go_wp2_with fail
      go_region_law (first
        | (go_simp; go_at_call 18; (with_reducible refine (C1.out _ (HR1.out.oldn HK.out) (HT.out.oldn HK.out)).mono ?_); rintro e w' ⟨rfl, hb⟩; replace HK := Lib.hid (HK.out.after hb); clear hb)
        | (go_simp; go_at_call 18; (with_reducible refine (C2.out _ (HR2.out.oldn HK.out) (HT.out.oldn HK.out)).mono ?_); rintro e w' ⟨rfl, hb⟩; replace HK := Lib.hid (HK.out.after hb); clear hb)
        | (go_simp; go_at_call 10; (with_reducible refine (C5.out _).mono ?_); rintro e w' ⟨rfl, hb⟩; replace HK := Lib.hid (HK.out.after hb); clear hb; obtain ⟨a0, a1, a2, a3, d0, d1, d2, d3⟩ := cells4 (HK.out.at 0 rfl)))
      all_goals
        have HR := Lib.hid (row4 (HK.out.at 0 rfl) (.int .u32 z0) (.int .u32 z1) (.int .u32 z2) (.int .u32 z3))
        have HE := Lib.hid (HK.out.put4 0 rfl (.inr (Nat.le_refl _)) (.int .u32 z0) (.int .u32 z1) (.int .u32 z2) (.int .u32 z3)).be.plain
        go_wp2_with fail
        exact bodyPost_ret (v := .agg #[.int .u32 z0, .int .u32 z1, .int .u32 z2, .int .u32 z3]) (by
          obtain ⟨k0, k1, k2, k3, _⟩ := cells4 HR.out
          simp [results, go_sem, k0, k1, k2, k3]) rfl ⟨rfl, HE.out⟩
end Go.Proofs.YtcjclbhkheogpaaDoor
