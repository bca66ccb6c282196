/- The law MerkleClashes: for every two slices of digests it returns true, and both read as before. The table that it reads holds what the program's text lays (the card ties it). No other condition. -/
import Derived.Test.YtcjclbhkheogpaaDoorMerW
import Derived.Test.YtcjclbhkheogpaaDoorMerZ
import Derived.Test.YtcjclbhkheogpaaDoorMerS
import Derived.Test.YtcjclbhkheogpaaDoorMerR
namespace Go.Proofs.YtcjclbhkheogpaaDoor.merkleClashes
open Go.ChangeShapes Go.WideShapes Go.ChangeAt Go.RowKit
set_option linter.unusedVariables false

theorem op_at {l : List Oper} {n : Nat} {o : Oper} (h : l[n]? = some o) : (List.toArray l)[n]? = some o := by
  rw [List.getElem?_toArray]; exact h
theorem all16 {w W : World} {n0 n1 : Nat} {r : List (Nat × Obj)} {t u : TypeId} {p0 p1 p2 p3 q0 q1 q2 q3 u0 u1 u2 u3 v0 v1 v2 v3 : Int} (h : Kx none w W ((n0, .cells #[.int .u32 p0, .int .u32 p1, .int .u32 p2, .int .u32 p3, .int .u32 q0, .int .u32 q1, .int .u32 q2, .int .u32 q3] t (0, 0)) :: (n1, .cells #[.int .u32 u0, .int .u32 u1, .int .u32 u2, .int .u32 u3, .int .u32 v0, .int .u32 v1, .int .u32 v2, .int .u32 v3] u (0, 0)) :: r)) : W.cell? ⟨n0, 0, none⟩ = some (.int .u32 p0) ∧ W.cell? ⟨n0, 1, none⟩ = some (.int .u32 p1) ∧ W.cell? ⟨n0, 2, none⟩ = some (.int .u32 p2) ∧ W.cell? ⟨n0, 3, none⟩ = some (.int .u32 p3) ∧ W.cell? ⟨n0, 4, none⟩ = some (.int .u32 q0) ∧ W.cell? ⟨n0, 5, none⟩ = some (.int .u32 q1) ∧ W.cell? ⟨n0, 6, none⟩ = some (.int .u32 q2) ∧ W.cell? ⟨n0, 7, none⟩ = some (.int .u32 q3) ∧ W.cell? ⟨n1, 0, none⟩ = some (.int .u32 u0) ∧ W.cell? ⟨n1, 1, none⟩ = some (.int .u32 u1) ∧ W.cell? ⟨n1, 2, none⟩ = some (.int .u32 u2) ∧ W.cell? ⟨n1, 3, none⟩ = some (.int .u32 u3) ∧ W.cell? ⟨n1, 4, none⟩ = some (.int .u32 v0) ∧ W.cell? ⟨n1, 5, none⟩ = some (.int .u32 v1) ∧ W.cell? ⟨n1, 6, none⟩ = some (.int .u32 v2) ∧ W.cell? ⟨n1, 7, none⟩ = some (.int .u32 v3) := by
  obtain ⟨a0, a1, a2, a3, a4, a5, a6, a7, _⟩ := cells8 (h.at 0 rfl)
  obtain ⟨c0, c1, c2, c3, c4, c5, c6, c7, _⟩ := cells8 (h.at 1 rfl)
  exact ⟨a0, a1, a2, a3, a4, a5, a6, a7, c0, c1, c2, c3, c4, c5, c6, c7⟩
theorem walk_long {A B : Option Addr} {n m c1 c2 : Nat} (w : World) (ht : Tabs w) (h : 20 < n ∨ 20 < m) :
    Calls Tryd.prog 3 #[.slice A n c1, .slice B m c2] w fun e w' => e = .returned (.bool true) ∧ Below w.heap.size w w' := by
  have HT := Lib.hid ht
  have HK := Lib.hid (Kx.nil none w)
  clear ht
  by_cases h1 : 20 < n
  · have i0 : (20 : Int) < (n : Int) := by omega
    go_enter Tryd.func3, Tryd.ntmps3
    go_wp2_with fail
    refine (alive_any _ (HT.out.oldn HK.out)).mono ?_
    rintro e w1 ⟨rfl, hb⟩
    replace HK := Lib.hid (HK.out.after hb)
    clear hb
    go_wp2_with fail
    go_ret
    exact ⟨rfl, HK.out.be.plain⟩
  · have i0 : ¬ (20 : Int) < (n : Int) := by omega
    have i1 : (20 : Int) < (m : Int) := by omega
    go_enter Tryd.func3, Tryd.ntmps3
    go_wp2_with fail
    refine (alive_any _ (HT.out.oldn HK.out)).mono ?_
    rintro e w1 ⟨rfl, hb⟩
    replace HK := Lib.hid (HK.out.after hb)
    clear hb
    go_wp2_with fail
    go_ret
    exact ⟨rfl, HK.out.be.plain⟩
set_option maxRecDepth 100000 in
set_option maxHeartbeats 4000000 in
theorem walk_len {A B : Option Addr} {n m c1 c2 : Nat} {a b : Dl} (ha : a.length = n) (hb : b.length = m) (hn : n ≤ 20) (hm : m ≤ 20) (hc1 : n ≤ c1) (hm1 : c1 ≤ 9223372036854775807) (hc2 : m ≤ c2) (hm2 : c2 ≤ 9223372036854775807) (w : World) (d1 : Dd w A a) (d2 : Dd w B b) (ht : Tabs w) (hne : n ≠ m) :
    Calls Tryd.prog 3 #[.slice A n c1, .slice B m c2] w fun e w' => e = .returned (.bool true) ∧ Below w.heap.size w w' := by
  have CA : Hid (∀ w, Dd w A a → Dd w B b → Tabs w → Calls Tryd.prog 6 #[.slice A n c1, .slice B m c2] w fun e w' => e = .returned (.tuple #[.agg #[.int .u32 0, .int .u32 0, .int .u32 0, .int .u32 0, .int .u32 0, .int .u32 0, .int .u32 0, .int .u32 0], .agg #[.int .u32 0, .int .u32 0, .int .u32 0, .int .u32 0, .int .u32 0, .int .u32 0, .int .u32 0, .int .u32 0], .bool false]) ∧ Below w.heap.size w w') := Lib.hid (fun w _ _ _ => clashc_len w hne)
  have CB : Hid (∀ w, Dd w A a → Dd w B b → Tabs w → Calls Tryd.prog 7 #[.slice A n c1, .slice B m c2] w fun e w' => e = .returned (.tuple #[.agg #[.int .u32 0, .int .u32 0, .int .u32 0, .int .u32 0, .int .u32 0, .int .u32 0, .int .u32 0, .int .u32 0], .agg #[.int .u32 0, .int .u32 0, .int .u32 0, .int .u32 0, .int .u32 0, .int .u32 0, .int .u32 0, .int .u32 0], .bool false]) ∧ Below w.heap.size w w') := Lib.hid (fun w _ _ _ => clashr_len w hne)
  have CS : Hid (∀ w, Dd w A a → Dd w B b → Calls Tryd.prog 8 #[.slice A n c1, .slice B m c2] w fun e w' => e = .returned (.bool false) ∧ Below w.heap.size w w') := Lib.hid (fun w d1 d2 => by
    have h := samer (A := A) (B := B) (c1 := c1) (c2 := c2) w ha hb (by omega) d1 d2
    rw [sameL_no (fun e => hne (by rw [← ha, ← hb, e]))] at h
    exact h)
  have j0 : ((n : Int) != (m : Int)) = true := by rw [bne_iff_ne]; omega
  have j1 : (n != m) = true := by rw [bne_iff_ne]; omega
  have HD1 := Lib.hid d1
  have HD2 := Lib.hid d2
  have HT := Lib.hid ht
  have HK := Lib.hid (Kx.nil none w)
  have q47 := eq47
  have q4 := eq4s
  have s0 := same_self
  have sp : ∀ p q, sameP p q p q = true := fun p q => by unfold sameP; rw [same_self, same_self]; rfl
  have i0 : ¬ (20 : Int) < (n : Int) := by omega
  have i1 : ¬ (20 : Int) < (m : Int) := by omega
  clear ht d1 d2 ha hb hne
  go_enter Tryd.func3, Tryd.ntmps3
  go_wp2_with fail
  refine (alive_any _ (HT.out.oldn HK.out)).mono ?_
  rintro e w1 ⟨rfl, hb⟩
  replace HK := Lib.hid (HK.out.after hb)
  clear hb
  go_wp2_with fail
  refine (CA.out _ (HD1.out.kept HK.out.be.plain) (HD2.out.kept HK.out.be.plain) (HT.out.oldn HK.out)).mono ?_
  rintro e w2 ⟨rfl, hb⟩
  replace HK := Lib.hid (((HK.out.after hb).add _ rfl (.cells #[.int .u32 0, .int .u32 0, .int .u32 0, .int .u32 0, .int .u32 0, .int .u32 0, .int .u32 0, .int .u32 0] 27 (0, 0))).add (w2.heap.size + 1) (by simp) (.cells #[.int .u32 0, .int .u32 0, .int .u32 0, .int .u32 0, .int .u32 0, .int .u32 0, .int .u32 0, .int .u32 0] 27 (0, 0)))
  clear hb
  go_wp2_with fail
  refine (CB.out _ (HD1.out.kept HK.out.be.plain) (HD2.out.kept HK.out.be.plain) (HT.out.oldn HK.out)).mono ?_
  rintro e w3 ⟨rfl, hb⟩
  replace HK := Lib.hid (((HK.out.after hb).add _ rfl (.cells #[.int .u32 0, .int .u32 0, .int .u32 0, .int .u32 0, .int .u32 0, .int .u32 0, .int .u32 0, .int .u32 0] 27 (0, 0))).add (w3.heap.size + 1) (by simp) (.cells #[.int .u32 0, .int .u32 0, .int .u32 0, .int .u32 0, .int .u32 0, .int .u32 0, .int .u32 0, .int .u32 0] 27 (0, 0)))
  clear hb
  obtain ⟨a0, a1, a2, a3, a4, a5, a6, a7, d0, d1, d2, d3, d4, d5, d6, d7⟩ := cells8 (HK.out.at 0 rfl)
  obtain ⟨m0, m1, m2, m3, m4, m5, m6, m7, n0, n1, n2, n3, n4, n5, n6, n7⟩ := cells8 (HK.out.at 1 rfl)
  obtain ⟨e0, e1, e2, e3, e4, e5, e6, e7, f0, f1, f2, f3, f4, f5, f6, f7⟩ := cells8 (HK.out.at 2 rfl)
  obtain ⟨aa0, aa1, aa2, aa3, aa4, aa5, aa6, aa7, bb0, bb1, bb2, bb3, bb4, bb5, bb6, bb7⟩ := cells8 (HK.out.at 3 rfl)
  go_wp2_with fail
  clear a0 a1 a2 a3 a4 a5 a6 a7 d0 d1 d2 d3 d4 d5 d6 d7 m0 m1 m2 m3 m4 m5 m6 m7 n0 n1 n2 n3 n4 n5 n6 n7 e0 e1 e2 e3 e4 e5 e6 e7 f0 f1 f2 f3 f4 f5 f6 f7 aa0 aa1 aa2 aa3 aa4 aa5 aa6 aa7 bb0 bb1 bb2 bb3 bb4 bb5 bb6 bb7
  refine (CS.out _ (HD1.out.kept HK.out.be.plain) (HD2.out.kept HK.out.be.plain)).mono ?_
  rintro e w4 ⟨rfl, hb⟩
  replace HK := Lib.hid (HK.out.after hb)
  clear hb
  go_wp2_with fail
  go_ret
  exact ⟨rfl, HK.out.be.plain⟩
set_option maxRecDepth 100000 in
set_option maxHeartbeats 4000000 in
theorem walk_eq {A B : Option Addr} {n m c1 c2 : Nat} {a b : Dl} (ha : a.length = n) (hb : b.length = m) (hn : n ≤ 20) (hm : m ≤ 20) (hc1 : n ≤ c1) (hm1 : c1 ≤ 9223372036854775807) (hc2 : m ≤ c2) (hm2 : c2 ≤ 9223372036854775807) (w : World) (d1 : Dd w A a) (d2 : Dd w B b) (ht : Tabs w) (he : a = b) :
    Calls Tryd.prog 3 #[.slice A n c1, .slice B m c2] w fun e w' => e = .returned (.bool true) ∧ Below w.heap.size w w' := by
  obtain rfl : n = m := by rw [← ha, ← hb, he]
  have CA : Hid (∀ w, Dd w A a → Dd w B b → Tabs w → Calls Tryd.prog 6 #[.slice A n c1, .slice B n c2] w fun e w' => e = .returned (.tuple #[.agg #[.int .u32 0, .int .u32 0, .int .u32 0, .int .u32 0, .int .u32 0, .int .u32 0, .int .u32 0, .int .u32 0], .agg #[.int .u32 0, .int .u32 0, .int .u32 0, .int .u32 0, .int .u32 0, .int .u32 0, .int .u32 0, .int .u32 0], .bool false]) ∧ Below w.heap.size w w') := Lib.hid (fun w d1 d2 _ => clashc_eq w ha hb (by omega) he d1 d2)
  have CB : Hid (∀ w, Dd w A a → Dd w B b → Tabs w → Calls Tryd.prog 7 #[.slice A n c1, .slice B n c2] w fun e w' => e = .returned (.tuple #[.agg #[.int .u32 0, .int .u32 0, .int .u32 0, .int .u32 0, .int .u32 0, .int .u32 0, .int .u32 0, .int .u32 0], .agg #[.int .u32 0, .int .u32 0, .int .u32 0, .int .u32 0, .int .u32 0, .int .u32 0, .int .u32 0, .int .u32 0], .bool false]) ∧ Below w.heap.size w w') := Lib.hid (fun w d1 d2 _ => clashr_eq w ha hb (by omega) he d1 d2)
  have CS : Hid (∀ w, Dd w A a → Dd w B b → Calls Tryd.prog 8 #[.slice A n c1, .slice B n c2] w fun e w' => e = .returned (.bool true) ∧ Below w.heap.size w w') := Lib.hid (fun w d1 d2 => by
    have h := samer (A := A) (B := B) (c1 := c1) (c2 := c2) w ha hb (by omega) d1 d2
    rw [he, sameL_yes] at h
    exact h)
  have HD1 := Lib.hid d1
  have HD2 := Lib.hid d2
  have HT := Lib.hid ht
  have HK := Lib.hid (Kx.nil none w)
  have q47 := eq47
  have q4 := eq4s
  have s0 := same_self
  have sp : ∀ p q, sameP p q p q = true := fun p q => by unfold sameP; rw [same_self, same_self]; rfl
  have i0 : ¬ (20 : Int) < (n : Int) := by omega
  clear ht d1 d2 ha hb he
  go_enter Tryd.func3, Tryd.ntmps3
  go_wp2_with fail
  refine (alive_any _ (HT.out.oldn HK.out)).mono ?_
  rintro e w1 ⟨rfl, hb⟩
  replace HK := Lib.hid (HK.out.after hb)
  clear hb
  go_wp2_with fail
  refine (CA.out _ (HD1.out.kept HK.out.be.plain) (HD2.out.kept HK.out.be.plain) (HT.out.oldn HK.out)).mono ?_
  rintro e w2 ⟨rfl, hb⟩
  replace HK := Lib.hid (((HK.out.after hb).add _ rfl (.cells #[.int .u32 0, .int .u32 0, .int .u32 0, .int .u32 0, .int .u32 0, .int .u32 0, .int .u32 0, .int .u32 0] 27 (0, 0))).add (w2.heap.size + 1) (by simp) (.cells #[.int .u32 0, .int .u32 0, .int .u32 0, .int .u32 0, .int .u32 0, .int .u32 0, .int .u32 0, .int .u32 0] 27 (0, 0)))
  clear hb
  go_wp2_with fail
  refine (CB.out _ (HD1.out.kept HK.out.be.plain) (HD2.out.kept HK.out.be.plain) (HT.out.oldn HK.out)).mono ?_
  rintro e w3 ⟨rfl, hb⟩
  replace HK := Lib.hid (((HK.out.after hb).add _ rfl (.cells #[.int .u32 0, .int .u32 0, .int .u32 0, .int .u32 0, .int .u32 0, .int .u32 0, .int .u32 0, .int .u32 0] 27 (0, 0))).add (w3.heap.size + 1) (by simp) (.cells #[.int .u32 0, .int .u32 0, .int .u32 0, .int .u32 0, .int .u32 0, .int .u32 0, .int .u32 0, .int .u32 0] 27 (0, 0)))
  clear hb
  obtain ⟨a0, a1, a2, a3, a4, a5, a6, a7, d0, d1, d2, d3, d4, d5, d6, d7⟩ := cells8 (HK.out.at 0 rfl)
  obtain ⟨m0, m1, m2, m3, m4, m5, m6, m7, n0, n1, n2, n3, n4, n5, n6, n7⟩ := cells8 (HK.out.at 1 rfl)
  obtain ⟨e0, e1, e2, e3, e4, e5, e6, e7, f0, f1, f2, f3, f4, f5, f6, f7⟩ := cells8 (HK.out.at 2 rfl)
  obtain ⟨aa0, aa1, aa2, aa3, aa4, aa5, aa6, aa7, bb0, bb1, bb2, bb3, bb4, bb5, bb6, bb7⟩ := cells8 (HK.out.at 3 rfl)
  go_wp2_with fail
  clear a0 a1 a2 a3 a4 a5 a6 a7 d0 d1 d2 d3 d4 d5 d6 d7 m0 m1 m2 m3 m4 m5 m6 m7 n0 n1 n2 n3 n4 n5 n6 n7 e0 e1 e2 e3 e4 e5 e6 e7 f0 f1 f2 f3 f4 f5 f6 f7 aa0 aa1 aa2 aa3 aa4 aa5 aa6 aa7 bb0 bb1 bb2 bb3 bb4 bb5 bb6 bb7
  refine (CS.out _ (HD1.out.kept HK.out.be.plain) (HD2.out.kept HK.out.be.plain)).mono ?_
  rintro e w4 ⟨rfl, hb⟩
  replace HK := Lib.hid (HK.out.after hb)
  clear hb
  go_wp2_with fail
  go_ret
  exact ⟨rfl, HK.out.be.plain⟩
set_option maxRecDepth 100000 in
set_option maxHeartbeats 4000000 in
theorem walk_roots {A B : Option Addr} {n m c1 c2 : Nat} {a b : Dl} (ha : a.length = n) (hb : b.length = m) (hn : n ≤ 20) (hm : m ≤ 20) (hc1 : n ≤ c1) (hm1 : c1 ≤ 9223372036854775807) (hc2 : m ≤ c2) (hm2 : c2 ≤ 9223372036854775807) (w : World) (d1 : Dd w A a) (d2 : Dd w B b) (ht : Tabs w) (hnm : n = m) (hne : a ≠ b) (hr : mroot a ≠ mroot b) :
    Calls Tryd.prog 3 #[.slice A n c1, .slice B m c2] w fun e w' => e = .returned (.bool true) ∧ Below w.heap.size w w' := by
  subst hnm
  have CA : Hid (∀ w, Dd w A a → Dd w B b → Tabs w → Calls Tryd.prog 6 #[.slice A n c1, .slice B n c2] w fun e w' => e = .returned (.tuple #[.agg #[.int .u32 0, .int .u32 0, .int .u32 0, .int .u32 0, .int .u32 0, .int .u32 0, .int .u32 0, .int .u32 0], .agg #[.int .u32 0, .int .u32 0, .int .u32 0, .int .u32 0, .int .u32 0, .int .u32 0, .int .u32 0, .int .u32 0], .bool false]) ∧ Below w.heap.size w w') := Lib.hid (fun w d1 d2 ht => clashc_roots w ha hb (by omega) hc1 hm1 hc2 hm2 hne hr d1 d2 ht)
  have CB : Hid (∀ w, Dd w A a → Dd w B b → Tabs w → Calls Tryd.prog 7 #[.slice A n c1, .slice B n c2] w fun e w' => e = .returned (.tuple #[.agg #[.int .u32 0, .int .u32 0, .int .u32 0, .int .u32 0, .int .u32 0, .int .u32 0, .int .u32 0, .int .u32 0], .agg #[.int .u32 0, .int .u32 0, .int .u32 0, .int .u32 0, .int .u32 0, .int .u32 0, .int .u32 0, .int .u32 0], .bool false]) ∧ Below w.heap.size w w') := Lib.hid (fun w d1 d2 ht => clashr_roots w ha hb (by omega) hc1 hm1 hc2 hm2 hne hr d1 d2 ht)
  have CS : Hid (∀ w, Dd w A a → Dd w B b → Calls Tryd.prog 8 #[.slice A n c1, .slice B n c2] w fun e w' => e = .returned (.bool false) ∧ Below w.heap.size w w') := Lib.hid (fun w d1 d2 => by
    have h := samer (A := A) (B := B) (c1 := c1) (c2 := c2) w ha hb (by omega) d1 d2
    rw [sameL_no hne] at h
    exact h)
  have r1 := fun w => root_any (A := A) (cap := c1) w ha (by omega) hc1 hm1
  have r2 := fun w => root_any (A := B) (cap := c2) w hb (by omega) hc2 hm2
  obtain ⟨x0, x1, x2, x3, e1, _⟩ := ok4 d1.1.mroot
  obtain ⟨y0, y1, y2, y3, e2, _⟩ := ok4 d2.1.mroot
  rw [e1, e2] at hr
  have s1 := same_no hr
  rw [e1, ag4] at r1
  rw [e2, ag4] at r2
  have R1 := Lib.hid r1
  have R2 := Lib.hid r2
  have HD1 := Lib.hid d1
  have HD2 := Lib.hid d2
  have HT := Lib.hid ht
  have HK := Lib.hid (Kx.nil none w)
  have q47 := eq47
  have q4 := eq4s
  have s0 := same_self
  have sp : ∀ p q, sameP p q p q = true := fun p q => by unfold sameP; rw [same_self, same_self]; rfl
  have i0 : ¬ (20 : Int) < (n : Int) := by omega
  clear ht d1 d2 ha hb hne hr r1 r2 e1 e2
  go_enter Tryd.func3, Tryd.ntmps3
  go_wp2_with fail
  refine (alive_any _ (HT.out.oldn HK.out)).mono ?_
  rintro e w1 ⟨rfl, hb⟩
  replace HK := Lib.hid (HK.out.after hb)
  clear hb
  go_wp2_with fail
  refine (CA.out _ (HD1.out.kept HK.out.be.plain) (HD2.out.kept HK.out.be.plain) (HT.out.oldn HK.out)).mono ?_
  rintro e w2 ⟨rfl, hb⟩
  replace HK := Lib.hid (((HK.out.after hb).add _ rfl (.cells #[.int .u32 0, .int .u32 0, .int .u32 0, .int .u32 0, .int .u32 0, .int .u32 0, .int .u32 0, .int .u32 0] 27 (0, 0))).add (w2.heap.size + 1) (by simp) (.cells #[.int .u32 0, .int .u32 0, .int .u32 0, .int .u32 0, .int .u32 0, .int .u32 0, .int .u32 0, .int .u32 0] 27 (0, 0)))
  clear hb
  go_wp2_with fail
  refine (CB.out _ (HD1.out.kept HK.out.be.plain) (HD2.out.kept HK.out.be.plain) (HT.out.oldn HK.out)).mono ?_
  rintro e w3 ⟨rfl, hb⟩
  replace HK := Lib.hid (((HK.out.after hb).add _ rfl (.cells #[.int .u32 0, .int .u32 0, .int .u32 0, .int .u32 0, .int .u32 0, .int .u32 0, .int .u32 0, .int .u32 0] 27 (0, 0))).add (w3.heap.size + 1) (by simp) (.cells #[.int .u32 0, .int .u32 0, .int .u32 0, .int .u32 0, .int .u32 0, .int .u32 0, .int .u32 0, .int .u32 0] 27 (0, 0)))
  clear hb
  obtain ⟨a0, a1, a2, a3, a4, a5, a6, a7, d0, d1, d2, d3, d4, d5, d6, d7⟩ := cells8 (HK.out.at 0 rfl)
  obtain ⟨m0, m1, m2, m3, m4, m5, m6, m7, n0, n1, n2, n3, n4, n5, n6, n7⟩ := cells8 (HK.out.at 1 rfl)
  obtain ⟨e0, e1, e2, e3, e4, e5, e6, e7, f0, f1, f2, f3, f4, f5, f6, f7⟩ := cells8 (HK.out.at 2 rfl)
  obtain ⟨aa0, aa1, aa2, aa3, aa4, aa5, aa6, aa7, bb0, bb1, bb2, bb3, bb4, bb5, bb6, bb7⟩ := cells8 (HK.out.at 3 rfl)
  go_wp2_with fail
  clear a0 a1 a2 a3 a4 a5 a6 a7 d0 d1 d2 d3 d4 d5 d6 d7 m0 m1 m2 m3 m4 m5 m6 m7 n0 n1 n2 n3 n4 n5 n6 n7 e0 e1 e2 e3 e4 e5 e6 e7 f0 f1 f2 f3 f4 f5 f6 f7 aa0 aa1 aa2 aa3 aa4 aa5 aa6 aa7 bb0 bb1 bb2 bb3 bb4 bb5 bb6 bb7
  refine (CS.out _ (HD1.out.kept HK.out.be.plain) (HD2.out.kept HK.out.be.plain)).mono ?_
  rintro e w4 ⟨rfl, hb⟩
  replace HK := Lib.hid (HK.out.after hb)
  clear hb
  go_wp2_with fail
  have HKR := Lib.hid HK.out.drew
  refine wp_region_held_drew (S := (fun _ => True)) (by kernel_rfl) ?hsx1 (fun hH => ?restx1)
  case hsx1 => exact trivial
  refine wpAnyH_take (i := 0) (v := ?vx2) (by exact op_at rfl) (by kernel_rfl) (by kernel_rfl) (by kernel_rfl) (by exact fun _ _ _ h => h) (Or.inl ⟨by rfl, ?hyx2⟩) hH ?restx2
  case hyx2 => (intro w' hSw; (try dsimp only at hSw); go_simp <;> with_reducible rfl)
  (try simp only [Act.put, List.setIfInBounds_toArray, List.set_cons_zero, List.set_cons_succ])
  refine wpAnyH_take (i := 1) (v := ?vx3) (by exact op_at rfl) (by kernel_rfl) (by kernel_rfl) (by kernel_rfl) (by exact fun _ _ _ h => h) (Or.inl ⟨by rfl, ?hyx3⟩) hH ?restx3
  case hyx3 => (intro w' hSw; (try dsimp only at hSw); go_simp <;> with_reducible rfl)
  (try simp only [Act.put, List.setIfInBounds_toArray, List.set_cons_zero, List.set_cons_succ])
  refine wpAnyH_take (i := 3) (v := ?vx4) (by exact op_at rfl) (by kernel_rfl) (by kernel_rfl) (by kernel_rfl) (by exact fun _ _ _ h => h) (Or.inl ⟨by rfl, ?hyx4⟩) hH ?restx4
  case hyx4 => (intro w' hSw; (try dsimp only at hSw); go_simp <;> with_reducible rfl)
  (try simp only [Act.put, List.setIfInBounds_toArray, List.set_cons_zero, List.set_cons_succ])
  refine wpAnyH_ready (rs := [2]) (by kernel_rfl) (by simp) ?_
  refine AllReadyH.cons (op_at rfl) (fun K hK => ?_) AllReadyH.nil
  go_simp
  go_at_call 9
  (with_reducible refine (R1.out _ (HD1.out.kept HKR.out.be.plain) (HT.out.oldn HKR.out)).mono ?_)
  rintro e w' ⟨rfl, hb⟩
  replace HKR := Lib.hid (HKR.out.after hb)
  clear hb
  go_simp
  refine hK.out _ _ ?hsx5 (fun hN => ?restx5)
  case hsx5 => exact trivial
  clear hK K hH
  have hH := hN
  clear hN
  (try simp only [Act.put, List.setIfInBounds_toArray, List.set_cons_zero, List.set_cons_succ])
  refine wpAnyH_ready (rs := [4]) (by kernel_rfl) (by simp) ?_
  refine AllReadyH.cons (op_at rfl) (fun K hK => ?_) AllReadyH.nil
  go_simp
  go_at_call 9
  (with_reducible refine (R2.out _ (HD2.out.kept HKR.out.be.plain) (HT.out.oldn HKR.out)).mono ?_)
  rintro e w' ⟨rfl, hb⟩
  replace HKR := Lib.hid (HKR.out.after hb)
  clear hb
  go_simp
  refine hK.out _ _ ?hsx6 (fun hN => ?restx6)
  case hsx6 => exact trivial
  clear hK K hH
  have hH := hN
  clear hN
  (try simp only [Act.put, List.setIfInBounds_toArray, List.set_cons_zero, List.set_cons_succ])
  refine wpAnyH_take (i := 5) (v := ?vx7) (by exact op_at rfl) (by kernel_rfl) (by kernel_rfl) (by kernel_rfl) (by exact fun _ _ _ h => h) (Or.inl ⟨by rfl, ?hyx7⟩) hH ?restx7
  case hyx7 => (intro w' hSw; (try dsimp only at hSw); go_simp <;> with_reducible rfl)
  (try simp only [Act.put, List.setIfInBounds_toArray, List.set_cons_zero, List.set_cons_succ])
  refine wpAnyH_take (i := 6) (v := ?vx8) (by exact op_at rfl) (by kernel_rfl) (by kernel_rfl) (by kernel_rfl) (by exact fun _ _ _ h => h) (Or.inl ⟨by rfl, ?hyx8⟩) hH ?restx8
  case hyx8 => (intro w' hSw; (try dsimp only at hSw); go_simp <;> with_reducible rfl)
  (try simp only [Act.put, List.setIfInBounds_toArray, List.set_cons_zero, List.set_cons_succ])
  refine wpAnyH_take (i := 7) (v := ?vx9) (by exact op_at rfl) (by kernel_rfl) (by kernel_rfl) (by kernel_rfl) (by exact fun _ _ _ h => h) (Or.inl ⟨by rfl, ?hyx9⟩) hH ?restx9
  case hyx9 => (intro w' hSw; (try dsimp only at hSw); go_simp <;> with_reducible rfl)
  (try simp only [Act.put, List.setIfInBounds_toArray, List.set_cons_zero, List.set_cons_succ])
  refine wpAnyH_take (i := 8) (v := ?vx10) (by exact op_at rfl) (by kernel_rfl) (by kernel_rfl) (by kernel_rfl) (by exact fun _ _ _ h => h) (Or.inl ⟨by rfl, ?hyx10⟩) hH ?restx10
  case hyx10 => (intro w' hSw; (try dsimp only at hSw); go_simp <;> with_reducible rfl)
  (try simp only [Act.put, List.setIfInBounds_toArray, List.set_cons_zero, List.set_cons_succ])
  refine wpAnyH_take (i := 9) (v := ?vx11) (by exact op_at rfl) (by kernel_rfl) (by kernel_rfl) (by kernel_rfl) (by exact fun _ _ _ h => h) (Or.inl ⟨by rfl, ?hyx11⟩) hH ?restx11
  case hyx11 => (intro w' hSw; (try dsimp only at hSw); go_simp <;> with_reducible rfl)
  (try simp only [Act.put, List.setIfInBounds_toArray, List.set_cons_zero, List.set_cons_succ])
  refine wpAnyH_take (i := 10) (v := ?vx12) (by exact op_at rfl) (by kernel_rfl) (by kernel_rfl) (by kernel_rfl) (by exact fun _ _ _ h => h) (Or.inl ⟨by rfl, ?hyx12⟩) hH ?restx12
  case hyx12 => (intro w' hSw; (try dsimp only at hSw); go_simp <;> with_reducible rfl)
  (try simp only [Act.put, List.setIfInBounds_toArray, List.set_cons_zero, List.set_cons_succ])
  refine wpAnyH_take (i := 11) (v := undef) (by exact op_at rfl) (by kernel_rfl) (by kernel_rfl) (by kernel_rfl) (by exact fun _ _ _ h => h) (Or.inr ⟨by rfl, rfl⟩) hH ?restx13
  (try simp only [Act.put, List.setIfInBounds_toArray, List.set_cons_zero, List.set_cons_succ])
  refine wpAnyH_take (i := 12) (v := undef) (by exact op_at rfl) (by kernel_rfl) (by kernel_rfl) (by kernel_rfl) (by exact fun _ _ _ h => h) (Or.inr ⟨by rfl, rfl⟩) hH ?restx14
  (try simp only [Act.put, List.setIfInBounds_toArray, List.set_cons_zero, List.set_cons_succ])
  refine wpAnyH_take (i := 13) (v := undef) (by exact op_at rfl) (by kernel_rfl) (by kernel_rfl) (by kernel_rfl) (by exact fun _ _ _ h => h) (Or.inr ⟨by rfl, rfl⟩) hH ?restx15
  (try simp only [Act.put, List.setIfInBounds_toArray, List.set_cons_zero, List.set_cons_succ])
  refine wpAnyH_take (i := 14) (v := undef) (by exact op_at rfl) (by kernel_rfl) (by kernel_rfl) (by kernel_rfl) (by exact fun _ _ _ h => h) (Or.inr ⟨by rfl, rfl⟩) hH ?restx16
  (try simp only [Act.put, List.setIfInBounds_toArray, List.set_cons_zero, List.set_cons_succ])
  refine wpAnyH_take (i := 15) (v := undef) (by exact op_at rfl) (by kernel_rfl) (by kernel_rfl) (by kernel_rfl) (by exact fun _ _ _ h => h) (Or.inr ⟨by rfl, rfl⟩) hH ?restx17
  (try simp only [Act.put, List.setIfInBounds_toArray, List.set_cons_zero, List.set_cons_succ])
  refine wpAnyH_take (i := 16) (v := undef) (by exact op_at rfl) (by kernel_rfl) (by kernel_rfl) (by kernel_rfl) (by exact fun _ _ _ h => h) (Or.inr ⟨by rfl, rfl⟩) hH ?restx18
  (try simp only [Act.put, List.setIfInBounds_toArray, List.set_cons_zero, List.set_cons_succ])
  refine wpAnyH_take (i := 17) (v := undef) (by exact op_at rfl) (by kernel_rfl) (by kernel_rfl) (by kernel_rfl) (by exact fun _ _ _ h => h) (Or.inr ⟨by rfl, rfl⟩) hH ?restx19
  (try simp only [Act.put, List.setIfInBounds_toArray, List.set_cons_zero, List.set_cons_succ])
  refine wpAnyH_take (i := 18) (v := undef) (by exact op_at rfl) (by kernel_rfl) (by kernel_rfl) (by kernel_rfl) (by exact fun _ _ _ h => h) (Or.inr ⟨by rfl, rfl⟩) hH ?restx20
  (try simp only [Act.put, List.setIfInBounds_toArray, List.set_cons_zero, List.set_cons_succ])
  refine wpAnyH_take (i := 19) (v := undef) (by exact op_at rfl) (by kernel_rfl) (by kernel_rfl) (by kernel_rfl) (by exact fun _ _ _ h => h) (Or.inr ⟨by rfl, rfl⟩) hH ?restx21
  (try simp only [Act.put, List.setIfInBounds_toArray, List.set_cons_zero, List.set_cons_succ])
  refine wpAnyH_take (i := 20) (v := undef) (by exact op_at rfl) (by kernel_rfl) (by kernel_rfl) (by kernel_rfl) (by exact fun _ _ _ h => h) (Or.inr ⟨by rfl, rfl⟩) hH ?restx22
  (try simp only [Act.put, List.setIfInBounds_toArray, List.set_cons_zero, List.set_cons_succ])
  refine wpAnyH_take (i := 21) (v := undef) (by exact op_at rfl) (by kernel_rfl) (by kernel_rfl) (by kernel_rfl) (by exact fun _ _ _ h => h) (Or.inr ⟨by rfl, rfl⟩) hH ?restx23
  (try simp only [Act.put, List.setIfInBounds_toArray, List.set_cons_zero, List.set_cons_succ])
  refine wpAnyH_take (i := 22) (v := undef) (by exact op_at rfl) (by kernel_rfl) (by kernel_rfl) (by kernel_rfl) (by exact fun _ _ _ h => h) (Or.inr ⟨by rfl, rfl⟩) hH ?restx24
  (try simp only [Act.put, List.setIfInBounds_toArray, List.set_cons_zero, List.set_cons_succ])
  refine wpAnyH_take (i := 23) (v := undef) (by exact op_at rfl) (by kernel_rfl) (by kernel_rfl) (by kernel_rfl) (by exact fun _ _ _ h => h) (Or.inr ⟨by rfl, rfl⟩) hH ?restx25
  (try simp only [Act.put, List.setIfInBounds_toArray, List.set_cons_zero, List.set_cons_succ])
  refine wpAnyH_take (i := 24) (v := undef) (by exact op_at rfl) (by kernel_rfl) (by kernel_rfl) (by kernel_rfl) (by exact fun _ _ _ h => h) (Or.inr ⟨by rfl, rfl⟩) hH ?restx26
  (try simp only [Act.put, List.setIfInBounds_toArray, List.set_cons_zero, List.set_cons_succ])
  refine wpAnyH_take (i := 25) (v := undef) (by exact op_at rfl) (by kernel_rfl) (by kernel_rfl) (by kernel_rfl) (by exact fun _ _ _ h => h) (Or.inr ⟨by rfl, rfl⟩) hH ?restx27
  (try simp only [Act.put, List.setIfInBounds_toArray, List.set_cons_zero, List.set_cons_succ])
  refine wpAnyH_take (i := 26) (v := undef) (by exact op_at rfl) (by kernel_rfl) (by kernel_rfl) (by kernel_rfl) (by exact fun _ _ _ h => h) (Or.inr ⟨by rfl, rfl⟩) hH ?restx28
  (try simp only [Act.put, List.setIfInBounds_toArray, List.set_cons_zero, List.set_cons_succ])
  refine wpAnyH_take (i := 27) (v := ?vx29) (by exact op_at rfl) (by kernel_rfl) (by kernel_rfl) (by kernel_rfl) (by exact fun _ _ _ h => h) (Or.inl ⟨by rfl, ?hyx29⟩) hH ?restx29
  case hyx29 => (intro w' hSw; (try dsimp only at hSw); go_simp <;> with_reducible rfl)
  (try simp only [Act.put, List.setIfInBounds_toArray, List.set_cons_zero, List.set_cons_succ])
  refine wpAnyH_take (i := 28) (v := ?vx30) (by exact op_at rfl) (by kernel_rfl) (by kernel_rfl) (by kernel_rfl) (by exact fun _ _ _ h => h) (Or.inl ⟨by rfl, ?hyx30⟩) hH ?restx30
  case hyx30 => (intro w' hSw; (try dsimp only at hSw); go_simp <;> with_reducible rfl)
  (try simp only [Act.put, List.setIfInBounds_toArray, List.set_cons_zero, List.set_cons_succ])
  refine wpAnyH_take (i := 29) (v := ?vx31) (by exact op_at rfl) (by kernel_rfl) (by kernel_rfl) (by kernel_rfl) (by exact fun _ _ _ h => h) (Or.inl ⟨by rfl, ?hyx31⟩) hH ?restx31
  case hyx31 => (intro w' hSw; (try dsimp only at hSw); go_simp <;> with_reducible rfl)
  (try simp only [Act.put, List.setIfInBounds_toArray, List.set_cons_zero, List.set_cons_succ])
  refine wpAnyH_done (by kernel_rfl) ?_ _
  go_wp2_with fail
  go_ret
  exact ⟨rfl, HKR.out.be.plain⟩
set_option maxRecDepth 100000 in
set_option maxHeartbeats 4000000 in
theorem walk_yes {A B : Option Addr} {n m c1 c2 : Nat} {a b : Dl} (ha : a.length = n) (hb : b.length = m) (hn : n ≤ 20) (hm : m ≤ 20) (hc1 : n ≤ c1) (hm1 : c1 ≤ 9223372036854775807) (hc2 : m ≤ c2) (hm2 : c2 ≤ 9223372036854775807) (w : World) (d1 : Dd w A a) (d2 : Dd w B b) (ht : Tabs w) (hnm : n = m) (hne : a ≠ b) (hr : mroot a = mroot b) :
    Calls Tryd.prog 3 #[.slice A n c1, .slice B m c2] w fun e w' => e = .returned (.bool true) ∧ Below w.heap.size w w' := by
  subst hnm
  have n2 := (clash_parts ha hb hne hr).1
  obtain ⟨b1, o1, rfl, g1⟩ := d1.2 (fun e => by rw [e] at ha; simp at ha; omega)
  obtain ⟨b2, o2, rfl, g2⟩ := d2.2 (fun e => by rw [e] at hb; simp at hb; omega)
  obtain ⟨p0, p1, p2, p3, q0, q1, q2, q3, u0, u1, u2, u3, v0, v1, v2, v3, em, op, oq, ou, ov⟩ := mcl_form d1.1 d2.1
  have hu := cl_unlike n a b ha (ha.trans hb.symm) hne hr
  rw [em] at hu
  have CA := Lib.hid (fun w d1 d2 ht => clashc_yes (b1 := b1) (o1 := o1) (b2 := b2) (o2 := o2) w ha hb (by omega) hc1 hm1 hc2 hm2 hne hr em d1 d2 ht)
  have CB := Lib.hid (show ∀ w, DRow w b1 o1 a → DRow w b2 o2 b → Tabs w → Calls Tryd.prog 7 #[.slice (some ⟨b1, o1, none⟩) n c1, .slice (some ⟨b2, o2, none⟩) n c2] w fun e w' => e = .returned (.tuple #[.agg #[.int .u32 p0, .int .u32 p1, .int .u32 p2, .int .u32 p3, .int .u32 q0, .int .u32 q1, .int .u32 q2, .int .u32 q3], .agg #[.int .u32 u0, .int .u32 u1, .int .u32 u2, .int .u32 u3, .int .u32 v0, .int .u32 v1, .int .u32 v2, .int .u32 v3], .bool true]) ∧ Below w.heap.size w w' from fun w d1 d2 ht => by
    have h := clash_ref n a b b1 o1 c1 b2 o2 c2 w ha hb hne hr (by omega) hc1 hm1 hc2 hm2 d1 d2 ht
    rw [em] at h
    exact h)
  have c := fun w d1 d2 => samer_row b1 o1 c1 b2 o2 c2 n a b w ha hb (by omega) (by omega) d1 d2
  rw [sameL_no hne] at c
  have CS := Lib.hid c
  have r1 := fun w => root_any (A := some ⟨b1, o1, none⟩) (cap := c1) w ha (by omega) hc1 hm1
  have r2 := fun w => root_any (A := some ⟨b2, o2, none⟩) (cap := c2) w hb (by omega) hc2 hm2
  obtain ⟨x0, x1, x2, x3, e1, _⟩ := ok4 d1.1.mroot
  rw [e1, ag4] at r1
  rw [← hr, e1, ag4] at r2
  have R1 := Lib.hid r1
  have R2 := Lib.hid r2
  have hs : sameP [p0, p1, p2, p3] [q0, q1, q2, q3] [u0, u1, u2, u3] [v0, v1, v2, v3] = false := by
    unfold sameP
    by_cases h1 : [p0, p1, p2, p3] = [u0, u1, u2, u3]
    · have h2 : ¬ [q0, q1, q2, q3] = [v0, v1, v2, v3] := fun h => hu.1 (by rw [h1, h])
      rw [same_no h2, Bool.and_false]
    · rw [same_no h1, Bool.false_and]
  have hpp : pair [p0, p1, p2, p3] [q0, q1, q2, q3] = pair [u0, u1, u2, u3] [v0, v1, v2, v3] := hu.2
  obtain ⟨t0, t1, t2, t3, et, _⟩ := ok4 (pair_ok0 op oq)
  have c5 := fun w => pair_ref [p0, p1, p2, p3] [q0, q1, q2, q3] w op oq
  have c6 := fun w => pair_ref [u0, u1, u2, u3] [v0, v1, v2, v3] w ou ov
  rw [← hpp] at c6
  rw [et, ag4, ag4, ag4] at c5 c6
  have C5 := Lib.hid c5
  have C6 := Lib.hid c6
  have HD1 := Lib.hid d1
  have HD2 := Lib.hid d2
  have HT := Lib.hid ht
  have HK := Lib.hid (Kx.nil none w)
  have q47 := eq47
  have q4 := eq4s
  have s0 := same_self
  have sp : ∀ p q, sameP p q p q = true := fun p q => by unfold sameP; rw [same_self, same_self]; rfl
  have i0 : ¬ (20 : Int) < (n : Int) := by omega
  replace HD1 := Lib.hid g1
  replace HD2 := Lib.hid g2
  clear ht d1 d2 ha hb hne hr r1 r2 e1 c c5 c6 et hpp hu em op oq ou ov g1 g2
  go_enter Tryd.func3, Tryd.ntmps3
  go_wp2_with fail
  refine (alive_any _ (HT.out.oldn HK.out)).mono ?_
  rintro e w1 ⟨rfl, hb⟩
  replace HK := Lib.hid (HK.out.after hb)
  clear hb
  go_wp2_with fail
  refine (CA.out _ (HD1.out.kept HK.out.be.plain) (HD2.out.kept HK.out.be.plain) (HT.out.oldn HK.out)).mono ?_
  rintro e w2 ⟨rfl, hb⟩
  replace HK := Lib.hid (((HK.out.after hb).add _ rfl (.cells #[.int .u32 p0, .int .u32 p1, .int .u32 p2, .int .u32 p3, .int .u32 q0, .int .u32 q1, .int .u32 q2, .int .u32 q3] 27 (0, 0))).add (w2.heap.size + 1) (by simp) (.cells #[.int .u32 u0, .int .u32 u1, .int .u32 u2, .int .u32 u3, .int .u32 v0, .int .u32 v1, .int .u32 v2, .int .u32 v3] 27 (0, 0)))
  clear hb
  go_wp2_with fail
  refine (CB.out _ (HD1.out.kept HK.out.be.plain) (HD2.out.kept HK.out.be.plain) (HT.out.oldn HK.out)).mono ?_
  rintro e w3 ⟨rfl, hb⟩
  replace HK := Lib.hid (((HK.out.after hb).add _ rfl (.cells #[.int .u32 p0, .int .u32 p1, .int .u32 p2, .int .u32 p3, .int .u32 q0, .int .u32 q1, .int .u32 q2, .int .u32 q3] 27 (0, 0))).add (w3.heap.size + 1) (by simp) (.cells #[.int .u32 u0, .int .u32 u1, .int .u32 u2, .int .u32 u3, .int .u32 v0, .int .u32 v1, .int .u32 v2, .int .u32 v3] 27 (0, 0)))
  clear hb
  obtain ⟨a0, a1, a2, a3, a4, a5, a6, a7, d0, d1, d2, d3, d4, d5, d6, d7⟩ := cells8 (HK.out.at 0 rfl)
  obtain ⟨m0, m1, m2, m3, m4, m5, m6, m7, n0, n1, n2, n3, n4, n5, n6, n7⟩ := cells8 (HK.out.at 1 rfl)
  obtain ⟨e0, e1, e2, e3, e4, e5, e6, e7, f0, f1, f2, f3, f4, f5, f6, f7⟩ := cells8 (HK.out.at 2 rfl)
  obtain ⟨aa0, aa1, aa2, aa3, aa4, aa5, aa6, aa7, bb0, bb1, bb2, bb3, bb4, bb5, bb6, bb7⟩ := cells8 (HK.out.at 3 rfl)
  go_wp2_with fail
  clear a0 a1 a2 a3 a4 a5 a6 a7 d0 d1 d2 d3 d4 d5 d6 d7 m0 m1 m2 m3 m4 m5 m6 m7 n0 n1 n2 n3 n4 n5 n6 n7 e0 e1 e2 e3 e4 e5 e6 e7 f0 f1 f2 f3 f4 f5 f6 f7 aa0 aa1 aa2 aa3 aa4 aa5 aa6 aa7 bb0 bb1 bb2 bb3 bb4 bb5 bb6 bb7
  refine (CS.out _ (HD1.out.kept HK.out.be.plain) (HD2.out.kept HK.out.be.plain)).mono ?_
  rintro e w4 ⟨rfl, hb⟩
  replace HK := Lib.hid (HK.out.after hb)
  clear hb
  go_wp2_with fail
  replace HK := Lib.hid HK.out.drew
  go_region_held3 (fun W => W.cell? ⟨w2.heap.size, 0, none⟩ = some (.int .u32 p0) ∧ W.cell? ⟨w2.heap.size, 1, none⟩ = some (.int .u32 p1) ∧ W.cell? ⟨w2.heap.size, 2, none⟩ = some (.int .u32 p2) ∧ W.cell? ⟨w2.heap.size, 3, none⟩ = some (.int .u32 p3) ∧ W.cell? ⟨w2.heap.size, 4, none⟩ = some (.int .u32 q0) ∧ W.cell? ⟨w2.heap.size, 5, none⟩ = some (.int .u32 q1) ∧ W.cell? ⟨w2.heap.size, 6, none⟩ = some (.int .u32 q2) ∧ W.cell? ⟨w2.heap.size, 7, none⟩ = some (.int .u32 q3) ∧ W.cell? ⟨w2.heap.size + 1, 0, none⟩ = some (.int .u32 u0) ∧ W.cell? ⟨w2.heap.size + 1, 1, none⟩ = some (.int .u32 u1) ∧ W.cell? ⟨w2.heap.size + 1, 2, none⟩ = some (.int .u32 u2) ∧ W.cell? ⟨w2.heap.size + 1, 3, none⟩ = some (.int .u32 u3) ∧ W.cell? ⟨w2.heap.size + 1, 4, none⟩ = some (.int .u32 v0) ∧ W.cell? ⟨w2.heap.size + 1, 5, none⟩ = some (.int .u32 v1) ∧ W.cell? ⟨w2.heap.size + 1, 6, none⟩ = some (.int .u32 v2) ∧ W.cell? ⟨w2.heap.size + 1, 7, none⟩ = some (.int .u32 v3))
    (with_reducible exact all16 HK.out)
    (first
      | (go_at_call 9; with_reducible refine (R1.out _ (Dd.row (HD1.out.kept HK.out.be.plain)) (HT.out.oldn HK.out)).mono ?_; rintro e w' ⟨rfl, hb⟩; replace HK := Lib.hid (HK.out.after hb); clear hb)
      | (go_at_call 9; with_reducible refine (R2.out _ (Dd.row (HD2.out.kept HK.out.be.plain)) (HT.out.oldn HK.out)).mono ?_; rintro e w' ⟨rfl, hb⟩; replace HK := Lib.hid (HK.out.after hb); clear hb)
      | (go_at_call 10; with_reducible refine (C5.out _).mono ?_; rintro e w' ⟨rfl, hb⟩; replace HK := Lib.hid (HK.out.after hb); clear hb)
      | (go_at_call 10; with_reducible refine (C6.out _).mono ?_; rintro e w' ⟨rfl, hb⟩; replace HK := Lib.hid (HK.out.after hb); clear hb))
  all_goals
    go_wp2_with fail
    go_ret
    exact ⟨rfl, HK.out.be.plain⟩
theorem walk {A B : Option Addr} {n m c1 c2 : Nat} {a b : Dl} (ha : a.length = n) (hc1 : n ≤ c1) (hm1 : c1 ≤ maxLen) (hb : b.length = m) (hc2 : m ≤ c2) (hm2 : c2 ≤ maxLen) (w : World) (d1 : Dd w A a) (d2 : Dd w B b) (ht : Tabs w) :
    Calls Tryd.prog 3 #[.slice A n c1, .slice B m c2] w fun e w' => e = .returned (.bool true) ∧ Below w.heap.size w w' := by
  unfold maxLen at hm1 hm2
  by_cases h : 20 < n ∨ 20 < m
  · exact walk_long w ht h
  · by_cases hnm : n = m
    · by_cases he : a = b
      · exact walk_eq ha hb (by omega) (by omega) hc1 (by omega) hc2 (by omega) w d1 d2 ht he
      · by_cases hr : mroot a = mroot b
        · exact walk_yes ha hb (by omega) (by omega) hc1 (by omega) hc2 (by omega) w d1 d2 ht hnm he hr
        · exact walk_roots ha hb (by omega) (by omega) hc1 (by omega) hc2 (by omega) w d1 d2 ht hnm he hr
    · exact walk_len ha hb (by omega) (by omega) hc1 (by omega) hc2 (by omega) w d1 d2 ht hnm

set_option maxRecDepth 100000 in
theorem contract (H : Type) (enc : TypeId × Value → H) (W : World) (base : Nat) (args : Array Value) (ds gs : List (DataW H)) (before : List MemPlace)
    (hval : ∀ (j : Nat) t v, Tryd.f3.params[j]? = some t → args[j]? = some v → Value.okWide Tryd.prog W .any base t v)
    (hW : DataW.Whole enc Tryd.prog Tryd.f3.params.toList Rows.merkleClashesSpec.vars false W args.toList ds gs before) (hL : laidMetH Tryd.prog Rows.merkleClashesRow.laid W) :
    Calls Tryd.prog 3 args W fun e W' => ∃ v, e = .returned v ∧ Rows.merkleClashesSpec.post enc Tryd.prog Tryd.f3 false true false false W args v W' := by
  have hW' := hW
  obtain ⟨p, q, hA0, hV, rfl, hfz, hnd⟩ := hW
  have hA : DataW.TrodAll enc Tryd.prog W 0 (fun _ => true) true Tryd.f3.params.toList args.toList ds p := hA0
  rw [Tryd.params3] at hA hval
  obtain ⟨v0, vs0, d0, ds0, p0, q0, hargs, rfl, rfl, h0, r0⟩ := trodAll_cons hA
  obtain ⟨v1, vs1, d1, ds1, p1, q1, rfl, rfl, rfl, h1, r1⟩ := trodAll_cons r0
  obtain ⟨rfl, rfl, rfl⟩ := trodAll_nil r1
  obtain rfl : args = #[v0, v1] := by cases args; simp_all
  obtain ⟨rfl, rfl⟩ := trodVars_none hV
  have lt0 : ∀ x ∈ p0, x.block < W.heap.size := by obtain ⟨m, hm⟩ := h0; exact DataW.trod_lt m _ _ _ hm
  obtain ⟨A0, n0, c0, l0, rfl, hl0, hc0, hm0, hd0⟩ := open_sl (hval 0 22 v0 rfl rfl) h0
  have lt1 : ∀ x ∈ p1, x.block < W.heap.size := by obtain ⟨m, hm⟩ := h1; exact DataW.trod_lt m _ _ _ hm
  obtain ⟨A1, n1, c1, l1, rfl, hl1, hc1, hm1, hd1⟩ := open_sl (hval 1 22 v1 rfl rfl) h1
  clear hA0
  refine (walk (A := A0) (n := n0) (c1 := c0) (a := l0) (B := A1) (m := n1) (c2 := c1) (b := l1) hl0 hc0 hm0 hl1 hc1 hm1 W hd0 hd1 (tabs_of hL)).mono fun e W' ⟨he, bel⟩ => ?_
  subst he
  exact ⟨_, rfl, _, _, _, [], _, [], hW', trodAll_mk1 (shut_bool Tryd.underlying4 _), (trodAll_cons_mk (Below.trod laidOut (by kernel_rfl) (of_decide_eq_true (by kernel_rfl)) h0 bel lt0) (trodAll_cons_mk (Below.trod laidOut (by kernel_rfl) (of_decide_eq_true (by kernel_rfl)) h1 bel lt1) trodAll_mk0)), rfl, bel.frame _, fun h => by cases h⟩

theorem laid_met (os : Os) : laidMet Tryd.prog Rows.merkleClashesRow.laid ((laidWorld os).forCall (fun _ _ => 0) ⟨#[], #[.slice none 0 0, .slice none 0 0], []⟩).memory :=
  laidMet_of_run' 8 (by kernel_rfl) (by kernel_rfl)
theorem reads (os : Os) {H : Type} (enc : TypeId × Value → H) : ∃ places, DataW.whole enc Tryd.prog ((laidWorld os).forCall (fun _ _ => 0) ⟨#[], #[.slice none 0 0, .slice none 0 0], []⟩).memory Tryd.f3.params.toList Rows.merkleClashesSpec.vars false (#[.slice none 0 0, .slice none 0 0] : Array Value).toList 8 = some ([.nil, .nil], [], places) :=
  ⟨[], by kernel_rfl⟩

set_option maxRecDepth 100000 in
theorem lifted (os : Os) (started : os.Started) (H : Type) (enc : TypeId × Value → H) (F : Stop.Interp) :
    ReturnsInHanded {} Tryd.checked os 3 .any ((OpenSpec.ofChange Rows.merkleClashesSpec).preRow enc Tryd.prog Tryd.f3 Rows.merkleClashesRow.domain false Rows.merkleClashesRow.laid) (((OpenSpec.ofChange Rows.merkleClashesSpec).at F).post enc Tryd.prog Tryd.f3 false true false false) := by
  obtain ⟨places, hx⟩ := reads os enc
  refine returnsInHanded_of_row (C := Tryd.checked) (s := OpenSpec.ofChange Rows.merkleClashesSpec) own started (by kernel_rfl) Tryd.func3
    (witness_row_at (enc := enc) (C := Tryd.checked) false (laidWorld os) #[.slice none 0 0, .slice none 0 0] rfl (by kernel_rfl) (by kernel_rfl) (by kernel_rfl)
      (OpenSpec.preRow_of_cond 8 hx (by kernel_rfl) (fun k hk => by cases hk) (by kernel_rfl) (laid_met os))) ?_
  intro W base args ds gs before hval hW _ _ _ hL _ _
  exact contract H enc W base args ds gs before hval hW hL

theorem said : Rows.MerkleClashesSaid :=
  OpenClaim.holds_of_cond 3 Tryd.f3 rfl rfl rfl rfl rfl rfl rfl ⟨rfl, rfl, rfl, rfl, rfl⟩ rfl rfl rfl rfl rfl (by kernel_rfl) Tryd.func3 (by kernel_rfl)
    (of_decide_eq_true (by kernel_rfl)) (by unfold Func.isWrapper; first | (rw [if_pos (by decide +kernel)]; kernel_rfl) | (rw [if_neg (by decide +kernel)]; exact ⟨rfl, rfl⟩))
    (fun os started H enc _ F => by rw [OpenClaim.pre_eq_preRow]; exact lifted os started H enc F)

theorem plain (f : FuncId) (fn : Func) (hf : Tryd.pinned.checked.prog.funcNamed "seedcorn/seedcornlaw04.MerkleClashes" = some f) (hfn : Tryd.pinned.checked.prog.funcs[f]? = some fn) :
    false = Tryd.pinned.checked.prog.looks [] ∧ ∀ (j : Nat) t, fn.params[j]? = some t → Tryd.pinned.checked.prog.wantsStandIn t = false := by
  obtain rfl : f = 3 := Option.some.inj ((show Tryd.prog.funcNamed "seedcorn/seedcornlaw04.MerkleClashes" = some 3 by kernel_rfl).symm.trans hf) |>.symm
  obtain rfl : fn = Tryd.f3 := (Option.some.inj (Tryd.func3.symm.trans hfn)).symm
  refine ⟨by kernel_rfl, fun j t ht => ?_⟩
  rw [Tryd.params3] at ht
  have hm := Array.mem_of_getElem? ht
  have hm' : t = 22 := by simpa using hm
  rcases hm' with rfl
  · exact (show Tryd.prog.wantsStandIn 22 = false by kernel_rfl)

/-- The card. -/
theorem card : Rows.MerkleClashesCardSaid :=
  Claim7.holds_tied_plain_at .later [] _ _ _ _ said (fun _ h => by cases h) (by kernel_rfl) (fun _ h => by cases h) merkleClashes_row_tie rfl ⟨rfl, rfl⟩ (by kernel_rfl) rfl plain (by kernel_rfl)
end Go.Proofs.YtcjclbhkheogpaaDoor.merkleClashes
