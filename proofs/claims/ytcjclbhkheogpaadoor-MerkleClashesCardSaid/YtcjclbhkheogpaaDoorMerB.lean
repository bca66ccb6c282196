/- merkle's Root and halves: the contracts. -/
import Derived.Test.YtcjclbhkheogpaaDoorMerK
import Derived.Test.YtcjclbhkheogpaaDoorMerN
set_option linter.unusedVariables false
namespace Go.Proofs.YtcjclbhkheogpaaDoor
open Go.RowKit

def RootAt (f : FuncId) (n : Nat) : Prop := ∀ (l : Dl) (b off cap : Nat) (w : World), l.length = n → 1 ≤ n → n ≤ 1024 → n ≤ cap → cap ≤ 9223372036854775807 → DRow w b off l → Tabs w →
    Calls Tryd.prog f #[.slice (some ⟨b, off, none⟩) n cap] w fun e w' => e = .returned (ag (mroot l)) ∧ Below w.heap.size w w'
set_option maxRecDepth 100000 in
set_option maxHeartbeats 2000000 in
theorem halves_step {n : Nat} (ih : ∀ m, m < n → RootAt 9 m) (l : Dl) (b off cap : Nat) (w : World) (hl : l.length = n) (h2 : 2 ≤ n) (hn : n ≤ 1024) (hc : n ≤ cap) (hm : cap ≤ 9223372036854775807) (hr : DRow w b off l) (ht : Tabs w) {x0 x1 x2 x3 y0 y1 y2 y3 : Int} (e1 : mroot (l.take (hf n)) = [x0, x1, x2, x3]) (e2 : mroot (l.drop (hf n)) = [y0, y1, y2, y3]) :
    Calls Tryd.prog 21 #[.slice (some ⟨b, off, none⟩) n cap] w fun e w' => e = .returned (.agg #[.int .u32 x0, .int .u32 x1, .int .u32 x2, .int .u32 x3, .int .u32 y0, .int .u32 y1, .int .u32 y2, .int .u32 y3]) ∧ Below w.heap.size w w' := by
  have k1 := hf_lt h2
  have k2 := hf_pos n
  have C := fun w => half_code n w h2 hn
  have c1 := fun w => ih (hf n) k1 (l.take (hf n)) b off cap w (by rw [List.length_take]; omega) k2 (by omega) (by omega) hm
  have c2 := fun w => ih (n - hf n) (by omega) (l.drop (hf n)) b (off + hf n * 4) (cap - hf n) w (by rw [List.length_drop, hl]) (by omega) (by omega) (by omega) (by omega)
  rw [e1, ag4] at c1
  rw [e2, ag4] at c2
  obtain ⟨k, hk⟩ : ∃ k, hf n = k := ⟨_, rfl⟩
  rw [hk] at C c1 c2 k1 k2
  have r1 := hr.take k
  have r2 := hr.drop k
  have HC := Lib.hid C
  have C1 := Lib.hid c1
  have C2 := Lib.hid c2
  have R1' := Lib.hid r1
  have R2 := Lib.hid r2
  have HT := Lib.hid ht
  have HK := Lib.hid ((Kx.nil none w).more (.cells #[.int .u32 0, .int .u32 0, .int .u32 0, .int .u32 0, .int .u32 0, .int .u32 0, .int .u32 0, .int .u32 0] 27 (0, 0))).drew
  have i0 : ¬ cap = k := by omega
  have i1 : k ≤ cap := by omega
  have i2 : k ≤ n := by omega
  clear C c1 c2 r1 r2 ht e1 e2 hk hr hl ih
  go_enter Tryd.func21, Tryd.ntmps21
  go_wp2_with fail
  refine (HC.out _).mono ?_
  rintro e w1 ⟨rfl, rfl⟩
  go_wp2_with fail
  go_region_law (first
    | (go_simp; go_at_call 9; (with_reducible refine (C1.out _ (R1'.out.oldn HK.out) (HT.out.oldn HK.out)).mono ?_); rintro e w' ⟨rfl, hb⟩; replace HK := Lib.hid (HK.out.after hb); clear hb)
    | (go_simp; go_at_call 9; (with_reducible refine (C2.out _ (R2.out.oldn HK.out) (HT.out.oldn HK.out)).mono ?_); rintro e w' ⟨rfl, hb⟩; replace HK := Lib.hid (HK.out.after hb); clear hb; obtain ⟨a0, a1, a2, a3, a4, a5, a6, a7, d0, d1, d2, d3, d4, d5, d6, d7⟩ := cells8 (HK.out.at 0 rfl)))
  all_goals
    have HR := Lib.hid (row8 (HK.out.at 0 rfl) (.int .u32 x0) (.int .u32 x1) (.int .u32 x2) (.int .u32 x3) (.int .u32 y0) (.int .u32 y1) (.int .u32 y2) (.int .u32 y3))
    have HE := Lib.hid (HK.out.put8 0 rfl (.inr (Nat.le_refl _)) (.int .u32 x0) (.int .u32 x1) (.int .u32 x2) (.int .u32 x3) (.int .u32 y0) (.int .u32 y1) (.int .u32 y2) (.int .u32 y3)).be.plain
    go_wp2_with fail
    exact bodyPost_ret (v := .agg #[.int .u32 x0, .int .u32 x1, .int .u32 x2, .int .u32 x3, .int .u32 y0, .int .u32 y1, .int .u32 y2, .int .u32 y3]) (by
      obtain ⟨k0, k1, k2, k3, k4, k5, k6, k7, _⟩ := cells8 HR.out
      simp [results, go_sem, k0, k1, k2, k3, k4, k5, k6, k7]) rfl ⟨rfl, HE.out⟩
theorem DRow.zero {w : World} {b off : Nat} {l : Dl} (h : DRow w b off l) {v0 v1 v2 v3 : Int} (hj : l[0]? = some [v0, v1, v2, v3]) :
    w.cell? ⟨b, off, none⟩ = some (.int .u32 v0) ∧ w.cell? ⟨b, off + 1, none⟩ = some (.int .u32 v1) ∧ w.cell? ⟨b, off + 2, none⟩ = some (.int .u32 v2) ∧ w.cell? ⟨b, off + 3, none⟩ = some (.int .u32 v3) := by
  have := h.four hj
  simpa using this
set_option maxRecDepth 100000 in
set_option maxHeartbeats 2000000 in
theorem root_code : ∀ n, RootAt 9 n := by
  intro n
  induction n using Nat.strongRecOn with
  | ind n ih =>
    intro l b off cap w hl h1 hn hc hm hr ht
    have hbw := hr.lt
    have hne : w.heap.size ≠ b := by omega
    by_cases h2 : n = 1
    · subst h2
      obtain ⟨v0, v1, v2, v3, hj, _⟩ := hr.get (j := 0) (by omega)
      have hroot : mroot l = [v0, v1, v2, v3] := by
        rw [root_small (by omega)]
        match l, hl, hj with
        | [x], _, hj => simpa using hj
      rw [hroot, ag4]
      obtain ⟨c0, c1, c2, c3⟩ := hr.zero hj
      clear hroot hj hr hl ih ht
      go_enter Tryd.func9, Tryd.ntmps9
      go_wp2_with fail
      exact bodyPost_ret (v := .agg #[.int .u32 v0, .int .u32 v1, .int .u32 v2, .int .u32 v3]) (by simp [results, go_sem]) rfl ⟨rfl, (Below.refl _ _).alloc (Nat.le_refl _) _⟩
    · have h2 : 2 ≤ n := by omega
      have o1 : Ok4 (mroot (l.take (hf n))) := (hr.ok.take _).mroot
      have o2 : Ok4 (mroot (l.drop (hf n))) := (hr.ok.drop _).mroot
      have o3 : Ok4 (mroot l) := hr.ok.mroot
      have hp := root_two (l := l) (by omega)
      rw [hl] at hp
      rw [hp] at o3 ⊢
      clear hp
      have c2 := fun w ht => pair_code (mroot (l.take (hf n))) (mroot (l.drop (hf n))) w o1 o2 ht
      obtain ⟨x0, x1, x2, x3, e1, _⟩ := ok4 o1
      obtain ⟨y0, y1, y2, y3, e2, _⟩ := ok4 o2
      have c1 := fun w hr ht => halves_step ih l b off cap w hl h2 hn hc hm hr ht e1 e2
      rw [e1, e2] at c2 o3 ⊢
      obtain ⟨z0, z1, z2, z3, e3, _⟩ := ok4 o3
      rw [e3] at c2 ⊢
      rw [ag4, ag4, ag4] at c2
      rw [ag4]
      have i0 : (n == 1) = false := by rw [beq_eq_false_iff_ne]; omega
      have i1 : (n == 0) = false := by rw [beq_eq_false_iff_ne]; omega
      have i2 : ((n : Int) == 1) = false := by rw [beq_eq_false_iff_ne]; omega
      have i3 : ((n : Int) == 0) = false := by rw [beq_eq_false_iff_ne]; omega
      have C1 := Lib.hid c1
      have C2 := Lib.hid c2
      have HR := Lib.hid hr
      have HT := Lib.hid ht
      have HK := Lib.hid ((Kx.nil none w).more (.cells #[.int .u32 0, .int .u32 0, .int .u32 0, .int .u32 0] 26 (0, 0)))
      clear c1 c2 hr ht e1 e2 e3 o1 o2 o3 hl ih
      go_enter Tryd.func9, Tryd.ntmps9
      go_wp2_with fail
      refine (C1.out _ (HR.out.oldn HK.out) (HT.out.oldn HK.out)).mono ?_
      rintro e w1 ⟨rfl, hb⟩
      replace HK := Lib.hid (HK.out.after hb)
      replace HK := Lib.hid (HK.out.more (.cells #[.int .u32 x0, .int .u32 x1, .int .u32 x2, .int .u32 x3, .int .u32 y0, .int .u32 y1, .int .u32 y2, .int .u32 y3] 27 (0, 0)))
      clear hb
      obtain ⟨q0, q1, q2, q3, q4, q5, q6, q7, _⟩ := cells8 (HK.out.at 1 rfl)
      go_wp2_with fail
      refine (C2.out _ (HT.out.oldn HK.out)).mono ?_
      rintro e w2 ⟨rfl, hb⟩
      clear q0 q1 q2 q3 q4 q5 q6 q7
      replace HK := Lib.hid (HK.out.after hb)
      clear hb
      obtain ⟨a0, a1, a2, a3, d0, d1, d2, d3⟩ := cells4 (HK.out.at 0 rfl)
      have HR := Lib.hid (row4 (HK.out.at 0 rfl) (.int .u32 z0) (.int .u32 z1) (.int .u32 z2) (.int .u32 z3))
      have HE := Lib.hid (HK.out.put4 0 rfl (.inr (Nat.le_refl _)) (.int .u32 z0) (.int .u32 z1) (.int .u32 z2) (.int .u32 z3)).be.plain
      go_wp2_with fail
      exact bodyPost_ret (v := .agg #[.int .u32 z0, .int .u32 z1, .int .u32 z2, .int .u32 z3]) (by
        obtain ⟨k0, k1, k2, k3, _⟩ := cells4 HR.out
        simp [results, go_sem, k0, k1, k2, k3]) rfl ⟨rfl, HE.out⟩
end Go.Proofs.YtcjclbhkheogpaaDoor
