/- The clash of two lists: the contract of merkle.Clash. -/
import Derived.Test.YtcjclbhkheogpaaDoorMerY
import Derived.Test.YtcjclbhkheogpaaDoorMerL
set_option linter.unusedVariables false
namespace Go.Proofs.YtcjclbhkheogpaaDoor
open Go.RowKit

set_option maxRecDepth 100000 in
set_option maxHeartbeats 4000000 in
theorem clashc_len {A B : Option Addr} {n m c1 c2 : Nat} (w : World) (hne : n ≠ m) :
    Calls Tryd.prog 6 #[.slice A n c1, .slice B m c2] w fun e w' => e = .returned (.tuple #[.agg #[.int .u32 0, .int .u32 0, .int .u32 0, .int .u32 0, .int .u32 0, .int .u32 0, .int .u32 0, .int .u32 0], .agg #[.int .u32 0, .int .u32 0, .int .u32 0, .int .u32 0, .int .u32 0, .int .u32 0, .int .u32 0, .int .u32 0], .bool false]) ∧ Below w.heap.size w w' := by
  have i0 : ((n : Int) != (m : Int)) = true := by rw [bne_iff_ne]; omega
  have i1 : (n != m) = true := by rw [bne_iff_ne]; omega
  have i2 : ((n : Int) == (m : Int)) = false := by rw [beq_eq_false_iff_ne]; omega
  have i3 : (n == m) = false := by rw [beq_eq_false_iff_ne]; omega
  have HK := Lib.hid (((Kx.nil none w).add (w.heap.size) rfl (.cells #[.int .u32 0, .int .u32 0, .int .u32 0, .int .u32 0, .int .u32 0, .int .u32 0, .int .u32 0, .int .u32 0] 27 (0, 0))).add (w.heap.size + 1) (by simp) (.cells #[.int .u32 0, .int .u32 0, .int .u32 0, .int .u32 0, .int .u32 0, .int .u32 0, .int .u32 0, .int .u32 0] 27 (0, 0)))
  have HR := HK
  clear hne
  go_enter Tryd.func6, Tryd.ntmps6
  go_wp2_with fail
  exact bodyPost_ret (v := .tuple #[.agg #[.int .u32 0, .int .u32 0, .int .u32 0, .int .u32 0, .int .u32 0, .int .u32 0, .int .u32 0, .int .u32 0], .agg #[.int .u32 0, .int .u32 0, .int .u32 0, .int .u32 0, .int .u32 0, .int .u32 0, .int .u32 0, .int .u32 0], .bool false]) (by
    obtain ⟨k0, k1, k2, k3, k4, k5, k6, k7, _⟩ := cells8 (HR.out.at 0 rfl)
    obtain ⟨l0, l1, l2, l3, l4, l5, l6, l7, _⟩ := cells8 (HR.out.at 1 rfl)
    simp [results, go_sem, k0, k1, k2, k3, k4, k5, k6, k7, l0, l1, l2, l3, l4, l5, l6, l7]) rfl ⟨rfl, HR.out.be.plain⟩
set_option maxRecDepth 100000 in
set_option maxHeartbeats 4000000 in
theorem clashc_eq {A B : Option Addr} {n c1 c2 : Nat} {a b : Dl} (w : World) (ha : a.length = n) (hb : b.length = n) (hn : n ≤ 1024) (he : a = b) (d1 : Dd w A a) (d2 : Dd w B b) :
    Calls Tryd.prog 6 #[.slice A n c1, .slice B n c2] w fun e w' => e = .returned (.tuple #[.agg #[.int .u32 0, .int .u32 0, .int .u32 0, .int .u32 0, .int .u32 0, .int .u32 0, .int .u32 0, .int .u32 0], .agg #[.int .u32 0, .int .u32 0, .int .u32 0, .int .u32 0, .int .u32 0, .int .u32 0, .int .u32 0, .int .u32 0], .bool false]) ∧ Below w.heap.size w w' := by
  have c := fun w d1 d2 => equal (A := A) (B := B) (c1 := c1) (c2 := c2) w ha hb hn d1 d2
  have hs : sameL a b = true := by rw [he]; exact sameL_yes _
  rw [hs] at c
  have C1 := Lib.hid c
  have D1 := Lib.hid d1
  have D2 := Lib.hid d2
  have HK := Lib.hid (((Kx.nil none w).add (w.heap.size) rfl (.cells #[.int .u32 0, .int .u32 0, .int .u32 0, .int .u32 0, .int .u32 0, .int .u32 0, .int .u32 0, .int .u32 0] 27 (0, 0))).add (w.heap.size + 1) (by simp) (.cells #[.int .u32 0, .int .u32 0, .int .u32 0, .int .u32 0, .int .u32 0, .int .u32 0, .int .u32 0, .int .u32 0] 27 (0, 0)))
  clear hs c d1 d2 ha hb he
  go_enter Tryd.func6, Tryd.ntmps6
  go_wp2_with fail
  refine (C1.out _ (D1.out.kept HK.out.be.plain) (D2.out.kept HK.out.be.plain)).mono ?_
  rintro e w1 ⟨rfl, hb⟩
  replace HK := Lib.hid (HK.out.after hb)
  clear hb
  obtain ⟨a0, a1, a2, a3, a4, a5, a6, a7, d0, d1, d2, d3, d4, d5, d6, d7⟩ := cells8 (HK.out.at 0 rfl)
  obtain ⟨m0, m1, m2, m3, m4, m5, m6, m7, n0, n1, n2, n3, n4, n5, n6, n7⟩ := cells8 (HK.out.at 1 rfl)
  have HR := Lib.hid ((HK.out.put8 0 rfl (.inr (Nat.le_refl _)) (.int .u32 0) (.int .u32 0) (.int .u32 0) (.int .u32 0) (.int .u32 0) (.int .u32 0) (.int .u32 0) (.int .u32 0)).put8 1 rfl (.inr (Nat.le_succ _)) (.int .u32 0) (.int .u32 0) (.int .u32 0) (.int .u32 0) (.int .u32 0) (.int .u32 0) (.int .u32 0) (.int .u32 0))
  go_wp2_with fail
  exact bodyPost_ret (v := .tuple #[.agg #[.int .u32 0, .int .u32 0, .int .u32 0, .int .u32 0, .int .u32 0, .int .u32 0, .int .u32 0, .int .u32 0], .agg #[.int .u32 0, .int .u32 0, .int .u32 0, .int .u32 0, .int .u32 0, .int .u32 0, .int .u32 0, .int .u32 0], .bool false]) (by
    obtain ⟨k0, k1, k2, k3, k4, k5, k6, k7, _⟩ := cells8 (HR.out.at 0 rfl)
    obtain ⟨l0, l1, l2, l3, l4, l5, l6, l7, _⟩ := cells8 (HR.out.at 1 rfl)
    simp [results, go_sem, k0, k1, k2, k3, k4, k5, k6, k7, l0, l1, l2, l3, l4, l5, l6, l7]) rfl ⟨rfl, HR.out.be.plain⟩
set_option maxRecDepth 100000 in
set_option maxHeartbeats 4000000 in
theorem clashc_roots {A B : Option Addr} {n c1 c2 : Nat} {a b : Dl} (w : World) (ha : a.length = n) (hb : b.length = n) (hn : n ≤ 1024) (hc1 : n ≤ c1) (hm1 : c1 ≤ 9223372036854775807) (hc2 : n ≤ c2) (hm2 : c2 ≤ 9223372036854775807) (hne : a ≠ b) (hr : mroot a ≠ mroot b) (d1 : Dd w A a) (d2 : Dd w B b) (ht : Tabs w) :
    Calls Tryd.prog 6 #[.slice A n c1, .slice B n c2] w fun e w' => e = .returned (.tuple #[.agg #[.int .u32 0, .int .u32 0, .int .u32 0, .int .u32 0, .int .u32 0, .int .u32 0, .int .u32 0, .int .u32 0], .agg #[.int .u32 0, .int .u32 0, .int .u32 0, .int .u32 0, .int .u32 0, .int .u32 0, .int .u32 0, .int .u32 0], .bool false]) ∧ Below w.heap.size w w' := by
  have c := fun w d1 d2 => equal (A := A) (B := B) (c1 := c1) (c2 := c2) w ha hb hn d1 d2
  rw [sameL_no hne] at c
  have r1 := fun w => root_any (A := A) (cap := c1) w ha hn hc1 hm1
  have r2 := fun w => root_any (A := B) (cap := c2) w hb hn hc2 hm2
  obtain ⟨x0, x1, x2, x3, e1, _⟩ := ok4 d1.1.mroot
  obtain ⟨y0, y1, y2, y3, e2, _⟩ := ok4 d2.1.mroot
  rw [e1, e2] at hr
  have s1 := same_no hr
  rw [e1, ag4] at r1
  rw [e2, ag4] at r2
  have q4 := eq4s
  have C1 := Lib.hid c
  have R1 := Lib.hid r1
  have R2 := Lib.hid r2
  have D1 := Lib.hid d1
  have D2 := Lib.hid d2
  have HT := Lib.hid ht
  have HK := Lib.hid (((Kx.nil none w).add (w.heap.size) rfl (.cells #[.int .u32 0, .int .u32 0, .int .u32 0, .int .u32 0, .int .u32 0, .int .u32 0, .int .u32 0, .int .u32 0] 27 (0, 0))).add (w.heap.size + 1) (by simp) (.cells #[.int .u32 0, .int .u32 0, .int .u32 0, .int .u32 0, .int .u32 0, .int .u32 0, .int .u32 0, .int .u32 0] 27 (0, 0)))
  clear c r1 r2 d1 d2 ha hb hne hr e1 e2 ht
  go_enter Tryd.func6, Tryd.ntmps6
  go_wp2_with fail
  refine (C1.out _ (D1.out.kept HK.out.be.plain) (D2.out.kept HK.out.be.plain)).mono ?_
  rintro e w1 ⟨rfl, hb⟩
  replace HK := Lib.hid (HK.out.after hb)
  clear hb
  go_wp2_with fail
  refine (R1.out _ (D1.out.kept HK.out.be.plain) (HT.out.oldn HK.out)).mono ?_
  rintro e w2 ⟨rfl, hb⟩
  replace HK := Lib.hid (HK.out.after hb)
  clear hb
  go_wp2_with fail
  refine (R2.out _ (D2.out.kept HK.out.be.plain) (HT.out.oldn HK.out)).mono ?_
  rintro e w3 ⟨rfl, hb⟩
  replace HK := Lib.hid (HK.out.after hb)
  clear hb
  obtain ⟨a0, a1, a2, a3, a4, a5, a6, a7, d0, d1, d2, d3, d4, d5, d6, d7⟩ := cells8 (HK.out.at 0 rfl)
  obtain ⟨m0, m1, m2, m3, m4, m5, m6, m7, n0, n1, n2, n3, n4, n5, n6, n7⟩ := cells8 (HK.out.at 1 rfl)
  have HR := Lib.hid ((HK.out.put8 0 rfl (.inr (Nat.le_refl _)) (.int .u32 0) (.int .u32 0) (.int .u32 0) (.int .u32 0) (.int .u32 0) (.int .u32 0) (.int .u32 0) (.int .u32 0)).put8 1 rfl (.inr (Nat.le_succ _)) (.int .u32 0) (.int .u32 0) (.int .u32 0) (.int .u32 0) (.int .u32 0) (.int .u32 0) (.int .u32 0) (.int .u32 0))
  go_wp2_with fail
  exact bodyPost_ret (v := .tuple #[.agg #[.int .u32 0, .int .u32 0, .int .u32 0, .int .u32 0, .int .u32 0, .int .u32 0, .int .u32 0, .int .u32 0], .agg #[.int .u32 0, .int .u32 0, .int .u32 0, .int .u32 0, .int .u32 0, .int .u32 0, .int .u32 0, .int .u32 0], .bool false]) (by
    obtain ⟨k0, k1, k2, k3, k4, k5, k6, k7, _⟩ := cells8 (HR.out.at 0 rfl)
    obtain ⟨l0, l1, l2, l3, l4, l5, l6, l7, _⟩ := cells8 (HR.out.at 1 rfl)
    simp [results, go_sem, k0, k1, k2, k3, k4, k5, k6, k7, l0, l1, l2, l3, l4, l5, l6, l7]) rfl ⟨rfl, HR.out.be.plain⟩
set_option maxRecDepth 100000 in
set_option maxHeartbeats 4000000 in
theorem clashc_yes {b1 o1 c1 b2 o2 c2 n : Nat} {a b : Dl} {p0 p1 p2 p3 q0 q1 q2 q3 u0 u1 u2 u3 v0 v1 v2 v3 : Int} (w : World) (ha : a.length = n) (hb : b.length = n) (hn : n ≤ 1024) (hc1 : n ≤ c1) (hm1 : c1 ≤ 9223372036854775807) (hc2 : n ≤ c2) (hm2 : c2 ≤ 9223372036854775807) (hne : a ≠ b) (hr : mroot a = mroot b) (em : mcl a b = (([p0, p1, p2, p3], [q0, q1, q2, q3]), ([u0, u1, u2, u3], [v0, v1, v2, v3]))) (d1 : DRow w b1 o1 a) (d2 : DRow w b2 o2 b) (ht : Tabs w) :
    Calls Tryd.prog 6 #[.slice (some ⟨b1, o1, none⟩) n c1, .slice (some ⟨b2, o2, none⟩) n c2] w fun e w' => e = .returned (.tuple #[.agg #[.int .u32 p0, .int .u32 p1, .int .u32 p2, .int .u32 p3, .int .u32 q0, .int .u32 q1, .int .u32 q2, .int .u32 q3], .agg #[.int .u32 u0, .int .u32 u1, .int .u32 u2, .int .u32 u3, .int .u32 v0, .int .u32 v1, .int .u32 v2, .int .u32 v3], .bool true]) ∧ Below w.heap.size w w' := by
  have n2 := (clash_parts ha hb hne hr).1
  have c := fun w d1 d2 => equal_row b1 o1 c1 b2 o2 c2 n a b w ha hb (by omega) hn d1 d2
  rw [sameL_no hne] at c
  have r1 := fun w => root_any (A := some ⟨b1, o1, none⟩) (cap := c1) w ha hn hc1 hm1
  have r2 := fun w => root_any (A := some ⟨b2, o2, none⟩) (cap := c2) w hb hn hc2 hm2
  obtain ⟨x0, x1, x2, x3, e1, _⟩ := ok4 d1.ok.mroot
  rw [e1, ag4] at r1
  rw [← hr, e1, ag4] at r2
  have c4 := fun w => clash_code n a b b1 o1 c1 b2 o2 c2 w ha hb hne hr hn hc1 hm1 hc2 hm2
  rw [em] at c4
  have C4 := Lib.hid (show ∀ w, DRow w b1 o1 a → DRow w b2 o2 b → Tabs w → Calls Tryd.prog 17 #[.slice (some ⟨b1, o1, none⟩) n c1, .slice (some ⟨b2, o2, none⟩) n c2] w fun e w' => e = .returned (.tuple #[.agg #[.int .u32 p0, .int .u32 p1, .int .u32 p2, .int .u32 p3, .int .u32 q0, .int .u32 q1, .int .u32 q2, .int .u32 q3], .agg #[.int .u32 u0, .int .u32 u1, .int .u32 u2, .int .u32 u3, .int .u32 v0, .int .u32 v1, .int .u32 v2, .int .u32 v3]]) ∧ Below w.heap.size w w' from c4)
  have q4 := eq4s
  have s0 := same_self
  have C1 := Lib.hid c
  have R1 := Lib.hid r1
  have R2 := Lib.hid r2
  have HR1 := Lib.hid d1
  have HR2 := Lib.hid d2
  have HT := Lib.hid ht
  have HK := Lib.hid (((Kx.nil none w).add (w.heap.size) rfl (.cells #[.int .u32 0, .int .u32 0, .int .u32 0, .int .u32 0, .int .u32 0, .int .u32 0, .int .u32 0, .int .u32 0] 27 (0, 0))).add (w.heap.size + 1) (by simp) (.cells #[.int .u32 0, .int .u32 0, .int .u32 0, .int .u32 0, .int .u32 0, .int .u32 0, .int .u32 0, .int .u32 0] 27 (0, 0)))
  clear c c4 r1 r2 d1 d2 ha hb hne hr e1 em ht
  go_enter Tryd.func6, Tryd.ntmps6
  go_wp2_with fail
  refine (C1.out _ (HR1.out.oldn HK.out) (HR2.out.oldn HK.out)).mono ?_
  rintro e w1 ⟨rfl, hb⟩
  replace HK := Lib.hid (HK.out.after hb)
  clear hb
  go_wp2_with fail
  refine (R1.out _ (Dd.row (HR1.out.oldn HK.out)) (HT.out.oldn HK.out)).mono ?_
  rintro e w2 ⟨rfl, hb⟩
  replace HK := Lib.hid (HK.out.after hb)
  clear hb
  go_wp2_with fail
  refine (R2.out _ (Dd.row (HR2.out.oldn HK.out)) (HT.out.oldn HK.out)).mono ?_
  rintro e w3 ⟨rfl, hb⟩
  replace HK := Lib.hid (HK.out.after hb)
  clear hb
  go_wp2_with fail
  refine (C4.out _ (HR1.out.oldn HK.out) (HR2.out.oldn HK.out) (HT.out.oldn HK.out)).mono ?_
  rintro e w4 ⟨rfl, hb⟩
  have hge := (HK.out.after hb).be.size
  replace HK := Lib.hid (((HK.out.after hb).add _ rfl (.cells #[.int .u32 p0, .int .u32 p1, .int .u32 p2, .int .u32 p3, .int .u32 q0, .int .u32 q1, .int .u32 q2, .int .u32 q3] 27 (0, 0))).add (w4.heap.size + 1) (by simp) (.cells #[.int .u32 u0, .int .u32 u1, .int .u32 u2, .int .u32 u3, .int .u32 v0, .int .u32 v1, .int .u32 v2, .int .u32 v3] 27 (0, 0)))
  clear hb
  go_wp2_with fail
  obtain ⟨a0, a1, a2, a3, a4, a5, a6, a7, d0, d1, d2, d3, d4, d5, d6, d7⟩ := cells8 (HK.out.at 0 rfl)
  obtain ⟨m0, m1, m2, m3, m4, m5, m6, m7, n0, n1, n2, n3, n4, n5, n6, n7⟩ := cells8 (HK.out.at 1 rfl)
  obtain ⟨e0, e1, e2, e3, e4, e5, e6, e7, f0, f1, f2, f3, f4, f5, f6, f7⟩ := cells8 (HK.out.at 2 rfl)
  obtain ⟨aa0, aa1, aa2, aa3, aa4, aa5, aa6, aa7, bb0, bb1, bb2, bb3, bb4, bb5, bb6, bb7⟩ := cells8 (HK.out.at 3 rfl)
  have HR := Lib.hid ((HK.out.put8 0 rfl (.inr (Nat.le_refl _)) (.int .u32 p0) (.int .u32 p1) (.int .u32 p2) (.int .u32 p3) (.int .u32 q0) (.int .u32 q1) (.int .u32 q2) (.int .u32 q3)).put8 1 rfl (.inr (Nat.le_succ _)) (.int .u32 u0) (.int .u32 u1) (.int .u32 u2) (.int .u32 u3) (.int .u32 v0) (.int .u32 v1) (.int .u32 v2) (.int .u32 v3)).drew
  go_region
  all_goals
    go_wp2_with fail
    exact bodyPost_ret (v := .tuple #[.agg #[.int .u32 p0, .int .u32 p1, .int .u32 p2, .int .u32 p3, .int .u32 q0, .int .u32 q1, .int .u32 q2, .int .u32 q3], .agg #[.int .u32 u0, .int .u32 u1, .int .u32 u2, .int .u32 u3, .int .u32 v0, .int .u32 v1, .int .u32 v2, .int .u32 v3], .bool true]) (by
      obtain ⟨k0, k1, k2, k3, k4, k5, k6, k7, _⟩ := cells8 (HR.out.at 0 rfl)
      obtain ⟨l0, l1, l2, l3, l4, l5, l6, l7, _⟩ := cells8 (HR.out.at 1 rfl)
      simp [results, go_sem, k0, k1, k2, k3, k4, k5, k6, k7, l0, l1, l2, l3, l4, l5, l6, l7]) rfl ⟨rfl, HR.out.be.plain⟩
end Go.Proofs.YtcjclbhkheogpaaDoor
