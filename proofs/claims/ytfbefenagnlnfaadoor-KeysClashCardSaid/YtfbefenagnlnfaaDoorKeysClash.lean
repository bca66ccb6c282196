/- The law KeysClash: for every key, two messages and two signatures it returns true, and all read as before. The tables that it reads hold what the program's text lays (the card ties them). No other condition. -/
import Derived.Test.YtfbefenagnlnfaaDoorKeyR
import Derived.Test.YtfbefenagnlnfaaDoorKeyW
namespace Go.Proofs.YtfbefenagnlnfaaDoor.keysClash
open Go.ChangeShapes Go.WideShapes Go.ChangeAt Go.RowKit
set_option linter.unusedVariables false

theorem cells18 {w : World} {b : Nat} {t : TypeId} {v0 v1 v2 v3 v4 v5 v6 v7 v8 v9 v10 v11 v12 v13 v14 v15 v16 v17 : Value} (h : w.heap[b]? = some (.cells #[v0, v1, v2, v3, v4, v5, v6, v7, v8, v9, v10, v11, v12, v13, v14, v15, v16, v17] t (0, 0))) :
    w.cell? ⟨b, 0, none⟩ = some v0 ∧ w.cell? ⟨b, 1, none⟩ = some v1 ∧ w.cell? ⟨b, 2, none⟩ = some v2 ∧ w.cell? ⟨b, 3, none⟩ = some v3 ∧ w.cell? ⟨b, 4, none⟩ = some v4 ∧ w.cell? ⟨b, 5, none⟩ = some v5 ∧ w.cell? ⟨b, 6, none⟩ = some v6 ∧ w.cell? ⟨b, 7, none⟩ = some v7 ∧ w.cell? ⟨b, 8, none⟩ = some v8 ∧ w.cell? ⟨b, 9, none⟩ = some v9 ∧ w.cell? ⟨b, 10, none⟩ = some v10 ∧ w.cell? ⟨b, 11, none⟩ = some v11 ∧ w.cell? ⟨b, 12, none⟩ = some v12 ∧ w.cell? ⟨b, 13, none⟩ = some v13 ∧ w.cell? ⟨b, 14, none⟩ = some v14 ∧ w.cell? ⟨b, 15, none⟩ = some v15 ∧ w.cell? ⟨b, 16, none⟩ = some v16 ∧ w.cell? ⟨b, 17, none⟩ = some v17 := by
  simp [World.cell?, h]
theorem khd_inv {pub msg : Ws} {idx : Int} {one path : Dl} (h : khd pub msg idx one path = true) : path.length ≤ 4 ∧ one.length = 35 ∧ (0 ≤ idx ∧ idx < 2 ^ path.length) ∧ clb idx.toNat (rch msg one) path = pub := by
  unfold khd at h
  simp only [Bool.and_eq_true, decide_eq_true_eq] at h
  obtain ⟨⟨⟨h1, h2⟩, h3⟩, h4⟩ := h
  exact ⟨h1, h2, h3, by simpa [same] using h4⟩
set_option maxRecDepth 100000 in
set_option maxHeartbeats 4000000 in
theorem walk_a {r00 r01 r02 r03 r10 r11 r12 r13 r20 r21 r22 r23 I3 I4 : Int} {A3 B3 A4 B4 : Option Addr} {n3 c3 m3 d3 n4 c4 m4 d4 : Nat} {l3 k3 l4 k4 : Dl} (o0 : Ok4 [r00, r01, r02, r03]) (o1 : Ok4 [r10, r11, r12, r13]) (o2 : Ok4 [r20, r21, r22, r23])
    (s3 : l3.length = n3 ∧ n3 ≤ c3 ∧ c3 ≤ maxLen) (p3 : k3.length = m3 ∧ m3 ≤ d3 ∧ d3 ≤ maxLen) (s4 : l4.length = n4 ∧ n4 ≤ c4 ∧ c4 ≤ maxLen) (p4 : k4.length = m4 ∧ m4 ≤ d4 ∧ d4 ≤ maxLen) (hc : 40 < n3) (w : World) (ds3 : Dd w A3 l3) (dp3 : Dd w B3 k3) (ds4 : Dd w A4 l4) (dp4 : Dd w B4 k4) (ht : Tabs w) :
    Calls Tryd.prog 8 #[.agg #[.int .u32 r00, .int .u32 r01, .int .u32 r02, .int .u32 r03, .int .u32 r10, .int .u32 r11, .int .u32 r12, .int .u32 r13, .int .u32 r20, .int .u32 r21, .int .u32 r22, .int .u32 r23, .int .i64 I3, .slice A3 n3 c3, .slice B3 m3 d3, .int .i64 I4, .slice A4 n4 c4, .slice B4 m4 d4]] w fun e w' => e = .returned (.bool true) ∧ Below w.heap.size w w' := by
  have CA := Lib.hid (fun w ht => awake6 w ht)
  have HT := Lib.hid ht
  have HK := Lib.hid ((Kx.nil none w).more (.cells #[.int .u32 r00, .int .u32 r01, .int .u32 r02, .int .u32 r03, .int .u32 r10, .int .u32 r11, .int .u32 r12, .int .u32 r13, .int .u32 r20, .int .u32 r21, .int .u32 r22, .int .u32 r23, .int .i64 I3, .slice A3 n3 c3, .slice B3 m3 d3, .int .i64 I4, .slice A4 n4 c4, .slice B4 m4 d4] 49 (0, 0)))
  have i0 : (40 : Int) < (n3 : Int) := by omega
  clear ht ds3 dp3 ds4 dp4 s3 p3 s4 p4 hc
  go_enter Tryd.func8, Tryd.ntmps8
  go_wp2_with fail
  refine (CA.out _ (HT.out.oldn HK.out)).mono ?_
  rintro e w1 ⟨rfl, hb⟩
  replace HK := Lib.hid (HK.out.after hb)
  clear hb
  obtain ⟨z0, z1, z2, z3, z4, z5, z6, z7, z8, z9, z10, z11, z12, z13, z14, z15, z16, z17⟩ := cells18 (HK.out.at 0 rfl)
  go_wp2_with fail
  go_ret
  exact ⟨rfl, HK.out.be.plain⟩
set_option maxRecDepth 100000 in
set_option maxHeartbeats 4000000 in
theorem walk_b {r00 r01 r02 r03 r10 r11 r12 r13 r20 r21 r22 r23 I3 I4 : Int} {A3 B3 A4 B4 : Option Addr} {n3 c3 m3 d3 n4 c4 m4 d4 : Nat} {l3 k3 l4 k4 : Dl} (o0 : Ok4 [r00, r01, r02, r03]) (o1 : Ok4 [r10, r11, r12, r13]) (o2 : Ok4 [r20, r21, r22, r23])
    (s3 : l3.length = n3 ∧ n3 ≤ c3 ∧ c3 ≤ maxLen) (p3 : k3.length = m3 ∧ m3 ≤ d3 ∧ d3 ≤ maxLen) (s4 : l4.length = n4 ∧ n4 ≤ c4 ∧ c4 ≤ maxLen) (p4 : k4.length = m4 ∧ m4 ≤ d4 ∧ d4 ≤ maxLen) (hc : n3 ≤ 40 ∧ 40 < n4) (w : World) (ds3 : Dd w A3 l3) (dp3 : Dd w B3 k3) (ds4 : Dd w A4 l4) (dp4 : Dd w B4 k4) (ht : Tabs w) :
    Calls Tryd.prog 8 #[.agg #[.int .u32 r00, .int .u32 r01, .int .u32 r02, .int .u32 r03, .int .u32 r10, .int .u32 r11, .int .u32 r12, .int .u32 r13, .int .u32 r20, .int .u32 r21, .int .u32 r22, .int .u32 r23, .int .i64 I3, .slice A3 n3 c3, .slice B3 m3 d3, .int .i64 I4, .slice A4 n4 c4, .slice B4 m4 d4]] w fun e w' => e = .returned (.bool true) ∧ Below w.heap.size w w' := by
  have CA := Lib.hid (fun w ht => awake6 w ht)
  have HT := Lib.hid ht
  have HK := Lib.hid ((Kx.nil none w).more (.cells #[.int .u32 r00, .int .u32 r01, .int .u32 r02, .int .u32 r03, .int .u32 r10, .int .u32 r11, .int .u32 r12, .int .u32 r13, .int .u32 r20, .int .u32 r21, .int .u32 r22, .int .u32 r23, .int .i64 I3, .slice A3 n3 c3, .slice B3 m3 d3, .int .i64 I4, .slice A4 n4 c4, .slice B4 m4 d4] 49 (0, 0)))
  have i0 : ¬ (40 : Int) < (n3 : Int) := by omega
  have i1 : (40 : Int) < (n4 : Int) := by omega
  clear ht ds3 dp3 ds4 dp4 s3 p3 s4 p4 hc
  go_enter Tryd.func8, Tryd.ntmps8
  go_wp2_with fail
  refine (CA.out _ (HT.out.oldn HK.out)).mono ?_
  rintro e w1 ⟨rfl, hb⟩
  replace HK := Lib.hid (HK.out.after hb)
  clear hb
  obtain ⟨z0, z1, z2, z3, z4, z5, z6, z7, z8, z9, z10, z11, z12, z13, z14, z15, z16, z17⟩ := cells18 (HK.out.at 0 rfl)
  go_wp2_with fail
  go_ret
  exact ⟨rfl, HK.out.be.plain⟩
set_option maxRecDepth 100000 in
set_option maxHeartbeats 4000000 in
theorem walk_c {r00 r01 r02 r03 r10 r11 r12 r13 r20 r21 r22 r23 I3 I4 : Int} {A3 B3 A4 B4 : Option Addr} {n3 c3 m3 d3 n4 c4 m4 d4 : Nat} {l3 k3 l4 k4 : Dl} (o0 : Ok4 [r00, r01, r02, r03]) (o1 : Ok4 [r10, r11, r12, r13]) (o2 : Ok4 [r20, r21, r22, r23])
    (s3 : l3.length = n3 ∧ n3 ≤ c3 ∧ c3 ≤ maxLen) (p3 : k3.length = m3 ∧ m3 ≤ d3 ∧ d3 ≤ maxLen) (s4 : l4.length = n4 ∧ n4 ≤ c4 ∧ c4 ≤ maxLen) (p4 : k4.length = m4 ∧ m4 ≤ d4 ∧ d4 ≤ maxLen) (hc : n3 ≤ 40 ∧ n4 ≤ 40 ∧ 6 < m3) (w : World) (ds3 : Dd w A3 l3) (dp3 : Dd w B3 k3) (ds4 : Dd w A4 l4) (dp4 : Dd w B4 k4) (ht : Tabs w) :
    Calls Tryd.prog 8 #[.agg #[.int .u32 r00, .int .u32 r01, .int .u32 r02, .int .u32 r03, .int .u32 r10, .int .u32 r11, .int .u32 r12, .int .u32 r13, .int .u32 r20, .int .u32 r21, .int .u32 r22, .int .u32 r23, .int .i64 I3, .slice A3 n3 c3, .slice B3 m3 d3, .int .i64 I4, .slice A4 n4 c4, .slice B4 m4 d4]] w fun e w' => e = .returned (.bool true) ∧ Below w.heap.size w w' := by
  have CA := Lib.hid (fun w ht => awake6 w ht)
  have HT := Lib.hid ht
  have HK := Lib.hid ((Kx.nil none w).more (.cells #[.int .u32 r00, .int .u32 r01, .int .u32 r02, .int .u32 r03, .int .u32 r10, .int .u32 r11, .int .u32 r12, .int .u32 r13, .int .u32 r20, .int .u32 r21, .int .u32 r22, .int .u32 r23, .int .i64 I3, .slice A3 n3 c3, .slice B3 m3 d3, .int .i64 I4, .slice A4 n4 c4, .slice B4 m4 d4] 49 (0, 0)))
  have i0 : ¬ (40 : Int) < (n3 : Int) := by omega
  have i1 : ¬ (40 : Int) < (n4 : Int) := by omega
  have i2 : (6 : Int) < (m3 : Int) := by omega
  clear ht ds3 dp3 ds4 dp4 s3 p3 s4 p4 hc
  go_enter Tryd.func8, Tryd.ntmps8
  go_wp2_with fail
  refine (CA.out _ (HT.out.oldn HK.out)).mono ?_
  rintro e w1 ⟨rfl, hb⟩
  replace HK := Lib.hid (HK.out.after hb)
  clear hb
  obtain ⟨z0, z1, z2, z3, z4, z5, z6, z7, z8, z9, z10, z11, z12, z13, z14, z15, z16, z17⟩ := cells18 (HK.out.at 0 rfl)
  go_wp2_with fail
  go_ret
  exact ⟨rfl, HK.out.be.plain⟩
set_option maxRecDepth 100000 in
set_option maxHeartbeats 4000000 in
theorem walk_d {r00 r01 r02 r03 r10 r11 r12 r13 r20 r21 r22 r23 I3 I4 : Int} {A3 B3 A4 B4 : Option Addr} {n3 c3 m3 d3 n4 c4 m4 d4 : Nat} {l3 k3 l4 k4 : Dl} (o0 : Ok4 [r00, r01, r02, r03]) (o1 : Ok4 [r10, r11, r12, r13]) (o2 : Ok4 [r20, r21, r22, r23])
    (s3 : l3.length = n3 ∧ n3 ≤ c3 ∧ c3 ≤ maxLen) (p3 : k3.length = m3 ∧ m3 ≤ d3 ∧ d3 ≤ maxLen) (s4 : l4.length = n4 ∧ n4 ≤ c4 ∧ c4 ≤ maxLen) (p4 : k4.length = m4 ∧ m4 ≤ d4 ∧ d4 ≤ maxLen) (hc : n3 ≤ 40 ∧ n4 ≤ 40 ∧ m3 ≤ 6 ∧ ¬ I3 = I4) (w : World) (ds3 : Dd w A3 l3) (dp3 : Dd w B3 k3) (ds4 : Dd w A4 l4) (dp4 : Dd w B4 k4) (ht : Tabs w) :
    Calls Tryd.prog 8 #[.agg #[.int .u32 r00, .int .u32 r01, .int .u32 r02, .int .u32 r03, .int .u32 r10, .int .u32 r11, .int .u32 r12, .int .u32 r13, .int .u32 r20, .int .u32 r21, .int .u32 r22, .int .u32 r23, .int .i64 I3, .slice A3 n3 c3, .slice B3 m3 d3, .int .i64 I4, .slice A4 n4 c4, .slice B4 m4 d4]] w fun e w' => e = .returned (.bool true) ∧ Below w.heap.size w w' := by
  have CA := Lib.hid (fun w ht => awake6 w ht)
  have HT := Lib.hid ht
  have HK := Lib.hid ((Kx.nil none w).more (.cells #[.int .u32 r00, .int .u32 r01, .int .u32 r02, .int .u32 r03, .int .u32 r10, .int .u32 r11, .int .u32 r12, .int .u32 r13, .int .u32 r20, .int .u32 r21, .int .u32 r22, .int .u32 r23, .int .i64 I3, .slice A3 n3 c3, .slice B3 m3 d3, .int .i64 I4, .slice A4 n4 c4, .slice B4 m4 d4] 49 (0, 0)))
  have i0 : ¬ (40 : Int) < (n3 : Int) := by omega
  have i1 : ¬ (40 : Int) < (n4 : Int) := by omega
  have i2 : ¬ (6 : Int) < (m3 : Int) := by omega
  have i3 : ¬ I3 = I4 := by omega
  have j0 : (I3 != I4) = true := by rw [bne_iff_ne]; exact i3
  clear ht ds3 dp3 ds4 dp4 s3 p3 s4 p4 hc
  go_enter Tryd.func8, Tryd.ntmps8
  go_wp2_with fail
  refine (CA.out _ (HT.out.oldn HK.out)).mono ?_
  rintro e w1 ⟨rfl, hb⟩
  replace HK := Lib.hid (HK.out.after hb)
  clear hb
  obtain ⟨z0, z1, z2, z3, z4, z5, z6, z7, z8, z9, z10, z11, z12, z13, z14, z15, z16, z17⟩ := cells18 (HK.out.at 0 rfl)
  go_wp2_with fail
  go_ret
  exact ⟨rfl, HK.out.be.plain⟩
set_option maxRecDepth 100000 in
set_option maxHeartbeats 4000000 in
theorem walk_e {r00 r01 r02 r03 r10 r11 r12 r13 r20 r21 r22 r23 I3 I4 : Int} {A3 B3 A4 B4 : Option Addr} {n3 c3 m3 d3 n4 c4 m4 d4 : Nat} {l3 k3 l4 k4 : Dl} (o0 : Ok4 [r00, r01, r02, r03]) (o1 : Ok4 [r10, r11, r12, r13]) (o2 : Ok4 [r20, r21, r22, r23])
    (s3 : l3.length = n3 ∧ n3 ≤ c3 ∧ c3 ≤ maxLen) (p3 : k3.length = m3 ∧ m3 ≤ d3 ∧ d3 ≤ maxLen) (s4 : l4.length = n4 ∧ n4 ≤ c4 ∧ c4 ≤ maxLen) (p4 : k4.length = m4 ∧ m4 ≤ d4 ∧ d4 ≤ maxLen) (hc : n3 ≤ 40 ∧ n4 ≤ 40 ∧ m3 ≤ 6 ∧ I3 = I4 ∧ ¬ m3 = m4) (w : World) (ds3 : Dd w A3 l3) (dp3 : Dd w B3 k3) (ds4 : Dd w A4 l4) (dp4 : Dd w B4 k4) (ht : Tabs w) :
    Calls Tryd.prog 8 #[.agg #[.int .u32 r00, .int .u32 r01, .int .u32 r02, .int .u32 r03, .int .u32 r10, .int .u32 r11, .int .u32 r12, .int .u32 r13, .int .u32 r20, .int .u32 r21, .int .u32 r22, .int .u32 r23, .int .i64 I3, .slice A3 n3 c3, .slice B3 m3 d3, .int .i64 I4, .slice A4 n4 c4, .slice B4 m4 d4]] w fun e w' => e = .returned (.bool true) ∧ Below w.heap.size w w' := by
  have CA := Lib.hid (fun w ht => awake6 w ht)
  have HT := Lib.hid ht
  have HK := Lib.hid ((Kx.nil none w).more (.cells #[.int .u32 r00, .int .u32 r01, .int .u32 r02, .int .u32 r03, .int .u32 r10, .int .u32 r11, .int .u32 r12, .int .u32 r13, .int .u32 r20, .int .u32 r21, .int .u32 r22, .int .u32 r23, .int .i64 I3, .slice A3 n3 c3, .slice B3 m3 d3, .int .i64 I4, .slice A4 n4 c4, .slice B4 m4 d4] 49 (0, 0)))
  have i0 : ¬ (40 : Int) < (n3 : Int) := by omega
  have i1 : ¬ (40 : Int) < (n4 : Int) := by omega
  have i2 : ¬ (6 : Int) < (m3 : Int) := by omega
  have i3 : ¬ (m3 : Int) = (m4 : Int) := by omega
  have j0 : ((m3 : Int) != (m4 : Int)) = true := by rw [bne_iff_ne]; exact i3
  have j1 : (m3 != m4) = true := by rw [bne_iff_ne]; omega
  have j2 : ((m3 : Int) == (m4 : Int)) = false := by rw [beq_eq_false_iff_ne]; exact i3
  obtain rfl : I3 = I4 := hc.2.2.2.1
  clear ht ds3 dp3 ds4 dp4 s3 p3 s4 p4 hc
  go_enter Tryd.func8, Tryd.ntmps8
  go_wp2_with fail
  refine (CA.out _ (HT.out.oldn HK.out)).mono ?_
  rintro e w1 ⟨rfl, hb⟩
  replace HK := Lib.hid (HK.out.after hb)
  clear hb
  obtain ⟨z0, z1, z2, z3, z4, z5, z6, z7, z8, z9, z10, z11, z12, z13, z14, z15, z16, z17⟩ := cells18 (HK.out.at 0 rfl)
  go_wp2_with fail
  go_ret
  exact ⟨rfl, HK.out.be.plain⟩
set_option maxRecDepth 100000 in
set_option maxHeartbeats 4000000 in
theorem walk_f {r00 r01 r02 r03 r10 r11 r12 r13 r20 r21 r22 r23 I3 : Int} {A3 B3 A4 B4 : Option Addr} {n3 c3 m3 d3 n4 c4 d4 : Nat} {l3 k3 l4 k4 : Dl} (o0 : Ok4 [r00, r01, r02, r03]) (o1 : Ok4 [r10, r11, r12, r13]) (o2 : Ok4 [r20, r21, r22, r23])
    (s3 : l3.length = n3 ∧ n3 ≤ c3 ∧ c3 ≤ maxLen) (p3 : k3.length = m3 ∧ m3 ≤ d3 ∧ d3 ≤ maxLen) (s4 : l4.length = n4 ∧ n4 ≤ c4 ∧ c4 ≤ maxLen) (p4 : k4.length = m3 ∧ m3 ≤ d4 ∧ d4 ≤ maxLen) (hc : n3 ≤ 40 ∧ n4 ≤ 40 ∧ m3 ≤ 6) (hk : khd [r00, r01, r02, r03] [r10, r11, r12, r13] I3 l3 k3 = false) (w : World) (ds3 : Dd w A3 l3) (dp3 : Dd w B3 k3) (ds4 : Dd w A4 l4) (dp4 : Dd w B4 k4) (ht : Tabs w) :
    Calls Tryd.prog 8 #[.agg #[.int .u32 r00, .int .u32 r01, .int .u32 r02, .int .u32 r03, .int .u32 r10, .int .u32 r11, .int .u32 r12, .int .u32 r13, .int .u32 r20, .int .u32 r21, .int .u32 r22, .int .u32 r23, .int .i64 I3, .slice A3 n3 c3, .slice B3 m3 d3, .int .i64 I3, .slice A4 n4 c4, .slice B4 m3 d4]] w fun e w' => e = .returned (.bool true) ∧ Below w.heap.size w w' := by
  have CA := Lib.hid (fun w ht => awake6 w ht)
  have HT := Lib.hid ht
  have HK := Lib.hid ((Kx.nil none w).more (.cells #[.int .u32 r00, .int .u32 r01, .int .u32 r02, .int .u32 r03, .int .u32 r10, .int .u32 r11, .int .u32 r12, .int .u32 r13, .int .u32 r20, .int .u32 r21, .int .u32 r22, .int .u32 r23, .int .i64 I3, .slice A3 n3 c3, .slice B3 m3 d3, .int .i64 I3, .slice A4 n4 c4, .slice B4 m3 d4] 49 (0, 0)))
  have c1 := fun (w : World) hv ht => check6 (v := .agg #[.int .i64 I3, .slice A3 n3 c3, .slice B3 m3 d3]) (idx := I3) (one := l3) (path := k3) w o0 o1 hv ht
  have c2 := fun (w : World) hv ht => check6 (v := .agg #[.int .i64 I3, .slice A4 n4 c4, .slice B4 m3 d4]) (idx := I3) (one := l4) (path := k4) w o0 o2 hv ht
  rw [ag4, ag4] at c1 c2
  have hv1 : SgV w (.agg #[.int .i64 I3, .slice A3 n3 c3, .slice B3 m3 d3]) I3 l3 k3 := ⟨_, _, _, _, _, _, rfl, ⟨s3.1, s3.2.1, s3.2.2, ds3⟩, ⟨p3.1, p3.2.1, p3.2.2, dp3⟩⟩
  have hv2 : SgV w (.agg #[.int .i64 I3, .slice A4 n4 c4, .slice B4 m3 d4]) I3 l4 k4 := ⟨_, _, _, _, _, _, rfl, ⟨s4.1, s4.2.1, s4.2.2, ds4⟩, ⟨p4.1, p4.2.1, p4.2.2, dp4⟩⟩
  have HV1 := Lib.hid (hv1.kept ((Below.refl _ w).alloc (Nat.le_refl _) (.cells #[.int .u32 r00, .int .u32 r01, .int .u32 r02, .int .u32 r03, .int .u32 r10, .int .u32 r11, .int .u32 r12, .int .u32 r13, .int .u32 r20, .int .u32 r21, .int .u32 r22, .int .u32 r23, .int .i64 I3, .slice A3 n3 c3, .slice B3 m3 d3, .int .i64 I3, .slice A4 n4 c4, .slice B4 m3 d4] 49 (0, 0))))
  have HV2 := Lib.hid (hv2.kept ((Below.refl _ w).alloc (Nat.le_refl _) (.cells #[.int .u32 r00, .int .u32 r01, .int .u32 r02, .int .u32 r03, .int .u32 r10, .int .u32 r11, .int .u32 r12, .int .u32 r13, .int .u32 r20, .int .u32 r21, .int .u32 r22, .int .u32 r23, .int .i64 I3, .slice A3 n3 c3, .slice B3 m3 d3, .int .i64 I3, .slice A4 n4 c4, .slice B4 m3 d4] 49 (0, 0))))
  have i0 : ¬ (40 : Int) < (n3 : Int) := by omega
  have i1 : ¬ (40 : Int) < (n4 : Int) := by omega
  have i2 : ¬ (6 : Int) < (m3 : Int) := by omega
  have j3 : (I3 != I3) = false := by simp
  have j4 : ((m3 : Int) != (m3 : Int)) = false := by simp
  rw [hk] at c1
  have C1 := Lib.hid c1
  clear ht ds3 dp3 ds4 dp4 s3 p3 s4 p4 hc c1 c2 hv1 hv2 hk
  go_enter Tryd.func8, Tryd.ntmps8
  go_wp2_with fail
  refine (CA.out _ (HT.out.oldn HK.out)).mono ?_
  rintro e w1 ⟨rfl, hb⟩
  replace HK := Lib.hid (HK.out.after hb)
  replace HV1 := Lib.hid (HV1.out.kept hb)
  replace HV2 := Lib.hid (HV2.out.kept hb)
  clear hb
  obtain ⟨z0, z1, z2, z3, z4, z5, z6, z7, z8, z9, z10, z11, z12, z13, z14, z15, z16, z17⟩ := cells18 (HK.out.at 0 rfl)
  go_wp2_with fail
  refine (C1.out _ HV1.out (HT.out.oldn HK.out)).mono ?_
  rintro e w2 ⟨rfl, hb⟩
  replace HK := Lib.hid (HK.out.after hb)
  replace HV1 := Lib.hid (HV1.out.kept hb)
  replace HV2 := Lib.hid (HV2.out.kept hb)
  clear hb z0 z1 z2 z3 z4 z5 z6 z7 z8 z9 z10 z11 z12 z13 z14 z15 z16 z17
  obtain ⟨z0, z1, z2, z3, z4, z5, z6, z7, z8, z9, z10, z11, z12, z13, z14, z15, z16, z17⟩ := cells18 (HK.out.at 0 rfl)
  go_wp2_with fail
  go_ret
  exact ⟨rfl, HK.out.be.plain⟩
set_option maxRecDepth 100000 in
set_option maxHeartbeats 4000000 in
theorem walk_g {r00 r01 r02 r03 r10 r11 r12 r13 r20 r21 r22 r23 I3 : Int} {A3 B3 A4 B4 : Option Addr} {n3 c3 m3 d3 n4 c4 d4 : Nat} {l3 k3 l4 k4 : Dl} (o0 : Ok4 [r00, r01, r02, r03]) (o1 : Ok4 [r10, r11, r12, r13]) (o2 : Ok4 [r20, r21, r22, r23])
    (s3 : l3.length = n3 ∧ n3 ≤ c3 ∧ c3 ≤ maxLen) (p3 : k3.length = m3 ∧ m3 ≤ d3 ∧ d3 ≤ maxLen) (s4 : l4.length = n4 ∧ n4 ≤ c4 ∧ c4 ≤ maxLen) (p4 : k4.length = m3 ∧ m3 ≤ d4 ∧ d4 ≤ maxLen) (hc : n3 ≤ 40 ∧ n4 ≤ 40 ∧ m3 ≤ 6) (hk : khd [r00, r01, r02, r03] [r10, r11, r12, r13] I3 l3 k3 = true) (hk2 : khd [r00, r01, r02, r03] [r20, r21, r22, r23] I3 l4 k4 = false) (w : World) (ds3 : Dd w A3 l3) (dp3 : Dd w B3 k3) (ds4 : Dd w A4 l4) (dp4 : Dd w B4 k4) (ht : Tabs w) :
    Calls Tryd.prog 8 #[.agg #[.int .u32 r00, .int .u32 r01, .int .u32 r02, .int .u32 r03, .int .u32 r10, .int .u32 r11, .int .u32 r12, .int .u32 r13, .int .u32 r20, .int .u32 r21, .int .u32 r22, .int .u32 r23, .int .i64 I3, .slice A3 n3 c3, .slice B3 m3 d3, .int .i64 I3, .slice A4 n4 c4, .slice B4 m3 d4]] w fun e w' => e = .returned (.bool true) ∧ Below w.heap.size w w' := by
  have CA := Lib.hid (fun w ht => awake6 w ht)
  have HT := Lib.hid ht
  have HK := Lib.hid ((Kx.nil none w).more (.cells #[.int .u32 r00, .int .u32 r01, .int .u32 r02, .int .u32 r03, .int .u32 r10, .int .u32 r11, .int .u32 r12, .int .u32 r13, .int .u32 r20, .int .u32 r21, .int .u32 r22, .int .u32 r23, .int .i64 I3, .slice A3 n3 c3, .slice B3 m3 d3, .int .i64 I3, .slice A4 n4 c4, .slice B4 m3 d4] 49 (0, 0)))
  have c1 := fun (w : World) hv ht => check6 (v := .agg #[.int .i64 I3, .slice A3 n3 c3, .slice B3 m3 d3]) (idx := I3) (one := l3) (path := k3) w o0 o1 hv ht
  have c2 := fun (w : World) hv ht => check6 (v := .agg #[.int .i64 I3, .slice A4 n4 c4, .slice B4 m3 d4]) (idx := I3) (one := l4) (path := k4) w o0 o2 hv ht
  rw [ag4, ag4] at c1 c2
  have hv1 : SgV w (.agg #[.int .i64 I3, .slice A3 n3 c3, .slice B3 m3 d3]) I3 l3 k3 := ⟨_, _, _, _, _, _, rfl, ⟨s3.1, s3.2.1, s3.2.2, ds3⟩, ⟨p3.1, p3.2.1, p3.2.2, dp3⟩⟩
  have hv2 : SgV w (.agg #[.int .i64 I3, .slice A4 n4 c4, .slice B4 m3 d4]) I3 l4 k4 := ⟨_, _, _, _, _, _, rfl, ⟨s4.1, s4.2.1, s4.2.2, ds4⟩, ⟨p4.1, p4.2.1, p4.2.2, dp4⟩⟩
  have HV1 := Lib.hid (hv1.kept ((Below.refl _ w).alloc (Nat.le_refl _) (.cells #[.int .u32 r00, .int .u32 r01, .int .u32 r02, .int .u32 r03, .int .u32 r10, .int .u32 r11, .int .u32 r12, .int .u32 r13, .int .u32 r20, .int .u32 r21, .int .u32 r22, .int .u32 r23, .int .i64 I3, .slice A3 n3 c3, .slice B3 m3 d3, .int .i64 I3, .slice A4 n4 c4, .slice B4 m3 d4] 49 (0, 0))))
  have HV2 := Lib.hid (hv2.kept ((Below.refl _ w).alloc (Nat.le_refl _) (.cells #[.int .u32 r00, .int .u32 r01, .int .u32 r02, .int .u32 r03, .int .u32 r10, .int .u32 r11, .int .u32 r12, .int .u32 r13, .int .u32 r20, .int .u32 r21, .int .u32 r22, .int .u32 r23, .int .i64 I3, .slice A3 n3 c3, .slice B3 m3 d3, .int .i64 I3, .slice A4 n4 c4, .slice B4 m3 d4] 49 (0, 0))))
  have i0 : ¬ (40 : Int) < (n3 : Int) := by omega
  have i1 : ¬ (40 : Int) < (n4 : Int) := by omega
  have i2 : ¬ (6 : Int) < (m3 : Int) := by omega
  have j3 : (I3 != I3) = false := by simp
  have j4 : ((m3 : Int) != (m3 : Int)) = false := by simp
  rw [hk] at c1
  rw [hk2] at c2
  have C1 := Lib.hid c1
  have C2 := Lib.hid c2
  clear ht ds3 dp3 ds4 dp4 s3 p3 s4 p4 hc c1 c2 hv1 hv2 hk hk2
  go_enter Tryd.func8, Tryd.ntmps8
  go_wp2_with fail
  refine (CA.out _ (HT.out.oldn HK.out)).mono ?_
  rintro e w1 ⟨rfl, hb⟩
  replace HK := Lib.hid (HK.out.after hb)
  replace HV1 := Lib.hid (HV1.out.kept hb)
  replace HV2 := Lib.hid (HV2.out.kept hb)
  clear hb
  obtain ⟨z0, z1, z2, z3, z4, z5, z6, z7, z8, z9, z10, z11, z12, z13, z14, z15, z16, z17⟩ := cells18 (HK.out.at 0 rfl)
  go_wp2_with fail
  refine (C1.out _ HV1.out (HT.out.oldn HK.out)).mono ?_
  rintro e w2 ⟨rfl, hb⟩
  replace HK := Lib.hid (HK.out.after hb)
  replace HV1 := Lib.hid (HV1.out.kept hb)
  replace HV2 := Lib.hid (HV2.out.kept hb)
  clear hb z0 z1 z2 z3 z4 z5 z6 z7 z8 z9 z10 z11 z12 z13 z14 z15 z16 z17
  obtain ⟨z0, z1, z2, z3, z4, z5, z6, z7, z8, z9, z10, z11, z12, z13, z14, z15, z16, z17⟩ := cells18 (HK.out.at 0 rfl)
  go_wp2_with fail
  refine (C2.out _ HV2.out (HT.out.oldn HK.out)).mono ?_
  rintro e w3 ⟨rfl, hb⟩
  replace HK := Lib.hid (HK.out.after hb)
  replace HV1 := Lib.hid (HV1.out.kept hb)
  replace HV2 := Lib.hid (HV2.out.kept hb)
  clear hb z0 z1 z2 z3 z4 z5 z6 z7 z8 z9 z10 z11 z12 z13 z14 z15 z16 z17
  obtain ⟨z0, z1, z2, z3, z4, z5, z6, z7, z8, z9, z10, z11, z12, z13, z14, z15, z16, z17⟩ := cells18 (HK.out.at 0 rfl)
  go_wp2_with fail
  go_ret
  exact ⟨rfl, HK.out.be.plain⟩
set_option maxRecDepth 100000 in
set_option maxHeartbeats 4000000 in
theorem walk_h {r00 r01 r02 r03 r10 r11 r12 r13 r20 r21 r22 r23 I3 : Int} {A3 B3 A4 B4 : Option Addr} {n3 c3 m3 d3 n4 c4 d4 : Nat} {l3 k3 l4 k4 : Dl} (o0 : Ok4 [r00, r01, r02, r03]) (o1 : Ok4 [r10, r11, r12, r13]) (o2 : Ok4 [r20, r21, r22, r23])
    (s3 : l3.length = n3 ∧ n3 ≤ c3 ∧ c3 ≤ maxLen) (p3 : k3.length = m3 ∧ m3 ≤ d3 ∧ d3 ≤ maxLen) (s4 : l4.length = n4 ∧ n4 ≤ c4 ∧ c4 ≤ maxLen) (p4 : k4.length = m3 ∧ m3 ≤ d4 ∧ d4 ≤ maxLen) (hc : n3 ≤ 40 ∧ n4 ≤ 40 ∧ m3 ≤ 6) (hk : khd [r00, r01, r02, r03] [r10, r11, r12, r13] I3 l3 k3 = true) (hk2 : khd [r00, r01, r02, r03] [r20, r21, r22, r23] I3 l4 k4 = true) (w : World) (ds3 : Dd w A3 l3) (dp3 : Dd w B3 k3) (ds4 : Dd w A4 l4) (dp4 : Dd w B4 k4) (ht : Tabs w) :
    Calls Tryd.prog 8 #[.agg #[.int .u32 r00, .int .u32 r01, .int .u32 r02, .int .u32 r03, .int .u32 r10, .int .u32 r11, .int .u32 r12, .int .u32 r13, .int .u32 r20, .int .u32 r21, .int .u32 r22, .int .u32 r23, .int .i64 I3, .slice A3 n3 c3, .slice B3 m3 d3, .int .i64 I3, .slice A4 n4 c4, .slice B4 m3 d4]] w fun e w' => e = .returned (.bool true) ∧ Below w.heap.size w w' := by
  have CA := Lib.hid (fun w ht => awake6 w ht)
  have HT := Lib.hid ht
  have HK := Lib.hid ((Kx.nil none w).more (.cells #[.int .u32 r00, .int .u32 r01, .int .u32 r02, .int .u32 r03, .int .u32 r10, .int .u32 r11, .int .u32 r12, .int .u32 r13, .int .u32 r20, .int .u32 r21, .int .u32 r22, .int .u32 r23, .int .i64 I3, .slice A3 n3 c3, .slice B3 m3 d3, .int .i64 I3, .slice A4 n4 c4, .slice B4 m3 d4] 49 (0, 0)))
  have c1 := fun (w : World) hv ht => check6 (v := .agg #[.int .i64 I3, .slice A3 n3 c3, .slice B3 m3 d3]) (idx := I3) (one := l3) (path := k3) w o0 o1 hv ht
  have c2 := fun (w : World) hv ht => check6 (v := .agg #[.int .i64 I3, .slice A4 n4 c4, .slice B4 m3 d4]) (idx := I3) (one := l4) (path := k4) w o0 o2 hv ht
  rw [ag4, ag4] at c1 c2
  have hv1 : SgV w (.agg #[.int .i64 I3, .slice A3 n3 c3, .slice B3 m3 d3]) I3 l3 k3 := ⟨_, _, _, _, _, _, rfl, ⟨s3.1, s3.2.1, s3.2.2, ds3⟩, ⟨p3.1, p3.2.1, p3.2.2, dp3⟩⟩
  have hv2 : SgV w (.agg #[.int .i64 I3, .slice A4 n4 c4, .slice B4 m3 d4]) I3 l4 k4 := ⟨_, _, _, _, _, _, rfl, ⟨s4.1, s4.2.1, s4.2.2, ds4⟩, ⟨p4.1, p4.2.1, p4.2.2, dp4⟩⟩
  have HV1 := Lib.hid (hv1.kept ((Below.refl _ w).alloc (Nat.le_refl _) (.cells #[.int .u32 r00, .int .u32 r01, .int .u32 r02, .int .u32 r03, .int .u32 r10, .int .u32 r11, .int .u32 r12, .int .u32 r13, .int .u32 r20, .int .u32 r21, .int .u32 r22, .int .u32 r23, .int .i64 I3, .slice A3 n3 c3, .slice B3 m3 d3, .int .i64 I3, .slice A4 n4 c4, .slice B4 m3 d4] 49 (0, 0))))
  have HV2 := Lib.hid (hv2.kept ((Below.refl _ w).alloc (Nat.le_refl _) (.cells #[.int .u32 r00, .int .u32 r01, .int .u32 r02, .int .u32 r03, .int .u32 r10, .int .u32 r11, .int .u32 r12, .int .u32 r13, .int .u32 r20, .int .u32 r21, .int .u32 r22, .int .u32 r23, .int .i64 I3, .slice A3 n3 c3, .slice B3 m3 d3, .int .i64 I3, .slice A4 n4 c4, .slice B4 m3 d4] 49 (0, 0))))
  have i0 : ¬ (40 : Int) < (n3 : Int) := by omega
  have i1 : ¬ (40 : Int) < (n4 : Int) := by omega
  have i2 : ¬ (6 : Int) < (m3 : Int) := by omega
  have j3 : (I3 != I3) = false := by simp
  have j4 : ((m3 : Int) != (m3 : Int)) = false := by simp
  rw [hk] at c1
  rw [hk2] at c2
  obtain ⟨h4, h35, ⟨hi0, hi1⟩, hcl⟩ := khd_inv hk
  obtain ⟨_, h35', _, hcl'⟩ := khd_inv hk2
  obtain ⟨i, rfl⟩ : ∃ i : Nat, I3 = (i : Int) := ⟨I3.toNat, by omega⟩
  rw [Int.toNat_natCast] at hcl hcl'
  have h16 := two_le h4
  have hi2 : i < 2 ^ k3.length := by exact_mod_cast hi1
  have oa := rch_ok (msg := [r10, r11, r12, r13]) ds3.1 h35
  have ob := rch_ok (msg := [r20, r21, r22, r23]) ds4.1 h35'
  obtain rfl : n3 = 35 := by omega
  obtain rfl : n4 = 35 := by omega
  obtain ⟨b3, f3, rfl, dr3⟩ := ds3.2 (by intro e; rw [e] at h35; simp at h35)
  obtain ⟨b4, f4, rfl, dr4⟩ := ds4.2 (by intro e; rw [e] at h35'; simp at h35')
  have c3 := fun (W : World) (hr : DRow W b3 f3 l3) => reachr_row (cap := c3) [r10, r11, r12, r13] W o1 h35 s3.2.1 hr
  have c4 := fun (W : World) (hr : DRow W b4 f4 l4) => reachr_row (cap := c4) [r20, r21, r22, r23] W o2 h35' s4.2.1 hr
  have c5 := fun (W : World) q1 q2 => clash6r (i := i) (p := k3) (q := k4) (A := B3) (B := B4) (cp := d3) (cq := d4) W (by omega) oa ob p3.1 p4.1 (by omega) p3.2.1 p4.2.1 q1 q2
  have hks := ksh_of k3 k4 i (rch [r10, r11, r12, r13] l3) (rch [r20, r21, r22, r23] l4) (by rw [p3.1, p4.1]) (hcl.trans hcl'.symm)
  obtain ⟨a, ha⟩ : ∃ a, rch [r10, r11, r12, r13] l3 = a := ⟨_, rfl⟩
  obtain ⟨b, hb'⟩ : ∃ b, rch [r20, r21, r22, r23] l4 = b := ⟨_, rfl⟩
  rw [ha] at c3 c5 oa hks
  rw [hb'] at c4 c5 ob hks
  obtain ⟨a0, a1, a2, a3, rfl, _⟩ := ok4 oa
  obtain ⟨b0, b1, b2, b3', rfl, _⟩ := ok4 ob
  rw [ag4, ag4] at c3 c4 c5
  have C1 := Lib.hid c1
  have C2 := Lib.hid c2
  have C3 := Lib.hid c3
  have C4 := Lib.hid c4
  have DR3 := Lib.hid dr3
  have DR4 := Lib.hid dr4
  have DP3 := Lib.hid dp3
  have DP4 := Lib.hid dp4
  have q4 := eq4s
  have s0 := same_self
  have e0 : (0 : Int) ≤ (i : Int) := by omega
  by_cases hab : [a0, a1, a2, a3] = [b0, b1, b2, b3']
  · injection hab with g0 hab
    injection hab with g1 hab
    injection hab with g2 hab
    injection hab with g3 hab
    subst g0 g1 g2 g3
    clear ht ds3 dp3 ds4 dp4 s3 p3 s4 p4 hc c1 c2 c3 c4 c5 hv1 hv2 hk hk2 h4 h35 hi0 hi1 hcl hcl' h35' h16 hi2 oa ob dr3 dr4 hks ha hb'
    go_enter Tryd.func8, Tryd.ntmps8
    go_wp2_with fail
    refine (CA.out _ (HT.out.oldn HK.out)).mono ?_
    rintro e w1 ⟨rfl, hb⟩
    replace HK := Lib.hid (HK.out.after hb)
    replace HV1 := Lib.hid (HV1.out.kept hb)
    replace HV2 := Lib.hid (HV2.out.kept hb)
    clear hb
    obtain ⟨z0, z1, z2, z3, z4, z5, z6, z7, z8, z9, z10, z11, z12, z13, z14, z15, z16, z17⟩ := cells18 (HK.out.at 0 rfl)
    go_wp2_with fail
    refine (C1.out _ HV1.out (HT.out.oldn HK.out)).mono ?_
    rintro e w2 ⟨rfl, hb⟩
    replace HK := Lib.hid (HK.out.after hb)
    replace HV1 := Lib.hid (HV1.out.kept hb)
    replace HV2 := Lib.hid (HV2.out.kept hb)
    clear hb z0 z1 z2 z3 z4 z5 z6 z7 z8 z9 z10 z11 z12 z13 z14 z15 z16 z17
    obtain ⟨z0, z1, z2, z3, z4, z5, z6, z7, z8, z9, z10, z11, z12, z13, z14, z15, z16, z17⟩ := cells18 (HK.out.at 0 rfl)
    go_wp2_with fail
    refine (C2.out _ HV2.out (HT.out.oldn HK.out)).mono ?_
    rintro e w3 ⟨rfl, hb⟩
    replace HK := Lib.hid (HK.out.after hb)
    replace HV1 := Lib.hid (HV1.out.kept hb)
    replace HV2 := Lib.hid (HV2.out.kept hb)
    clear hb z0 z1 z2 z3 z4 z5 z6 z7 z8 z9 z10 z11 z12 z13 z14 z15 z16 z17
    obtain ⟨z0, z1, z2, z3, z4, z5, z6, z7, z8, z9, z10, z11, z12, z13, z14, z15, z16, z17⟩ := cells18 (HK.out.at 0 rfl)
    go_wp2_with fail
    refine (C3.out _ (DR3.out.oldn HK.out)).mono ?_
    rintro e w4 ⟨rfl, hb⟩
    replace HK := Lib.hid ((HK.out.after hb).more (.cells #[.int .u32 a0, .int .u32 a1, .int .u32 a2, .int .u32 a3] 24 (0, 0)))
    clear hb z0 z1 z2 z3 z4 z5 z6 z7 z8 z9 z10 z11 z12 z13 z14 z15 z16 z17
    obtain ⟨z0, z1, z2, z3, z4, z5, z6, z7, z8, z9, z10, z11, z12, z13, z14, z15, z16, z17⟩ := cells18 (HK.out.at 0 rfl)
    go_wp2_with fail
    refine (C4.out _ (DR4.out.oldn HK.out)).mono ?_
    rintro e w5 ⟨rfl, hb⟩
    replace HK := Lib.hid ((HK.out.after hb).more (.cells #[.int .u32 a0, .int .u32 a1, .int .u32 a2, .int .u32 a3] 24 (0, 0)))
    clear hb z0 z1 z2 z3 z4 z5 z6 z7 z8 z9 z10 z11 z12 z13 z14 z15 z16 z17
    obtain ⟨z0, z1, z2, z3, z4, z5, z6, z7, z8, z9, z10, z11, z12, z13, z14, z15, z16, z17⟩ := cells18 (HK.out.at 0 rfl)
    obtain ⟨t0, t1, t2, t3, _⟩ := cells4 (HK.out.at 1 rfl)
    obtain ⟨u0, u1, u2, u3, _⟩ := cells4 (HK.out.at 2 rfl)
    go_wp2_with fail
    go_ret
    exact ⟨rfl, HK.out.be.plain⟩
  · have hs : same [a0, a1, a2, a3] [b0, b1, b2, b3'] = false := same_no hab
    have hkk : ksh i [a0, a1, a2, a3] k3 [b0, b1, b2, b3'] k4 = true := hks.resolve_left hab
    rw [hkk] at c5
    have C5 := Lib.hid c5
    clear ht ds3 dp3 ds4 dp4 s3 p3 s4 p4 hc c1 c2 c3 c4 c5 hv1 hv2 hk hk2 h4 h35 hi0 hi1 hcl hcl' h35' h16 hi2 oa ob dr3 dr4 hks ha hb' hab hkk
    go_enter Tryd.func8, Tryd.ntmps8
    go_wp2_with fail
    refine (CA.out _ (HT.out.oldn HK.out)).mono ?_
    rintro e w1 ⟨rfl, hb⟩
    replace HK := Lib.hid (HK.out.after hb)
    replace HV1 := Lib.hid (HV1.out.kept hb)
    replace HV2 := Lib.hid (HV2.out.kept hb)
    clear hb
    obtain ⟨z0, z1, z2, z3, z4, z5, z6, z7, z8, z9, z10, z11, z12, z13, z14, z15, z16, z17⟩ := cells18 (HK.out.at 0 rfl)
    go_wp2_with fail
    refine (C1.out _ HV1.out (HT.out.oldn HK.out)).mono ?_
    rintro e w2 ⟨rfl, hb⟩
    replace HK := Lib.hid (HK.out.after hb)
    replace HV1 := Lib.hid (HV1.out.kept hb)
    replace HV2 := Lib.hid (HV2.out.kept hb)
    clear hb z0 z1 z2 z3 z4 z5 z6 z7 z8 z9 z10 z11 z12 z13 z14 z15 z16 z17
    obtain ⟨z0, z1, z2, z3, z4, z5, z6, z7, z8, z9, z10, z11, z12, z13, z14, z15, z16, z17⟩ := cells18 (HK.out.at 0 rfl)
    go_wp2_with fail
    refine (C2.out _ HV2.out (HT.out.oldn HK.out)).mono ?_
    rintro e w3 ⟨rfl, hb⟩
    replace HK := Lib.hid (HK.out.after hb)
    replace HV1 := Lib.hid (HV1.out.kept hb)
    replace HV2 := Lib.hid (HV2.out.kept hb)
    clear hb z0 z1 z2 z3 z4 z5 z6 z7 z8 z9 z10 z11 z12 z13 z14 z15 z16 z17
    obtain ⟨z0, z1, z2, z3, z4, z5, z6, z7, z8, z9, z10, z11, z12, z13, z14, z15, z16, z17⟩ := cells18 (HK.out.at 0 rfl)
    go_wp2_with fail
    refine (C3.out _ (DR3.out.oldn HK.out)).mono ?_
    rintro e w4 ⟨rfl, hb⟩
    replace HK := Lib.hid ((HK.out.after hb).more (.cells #[.int .u32 a0, .int .u32 a1, .int .u32 a2, .int .u32 a3] 24 (0, 0)))
    clear hb z0 z1 z2 z3 z4 z5 z6 z7 z8 z9 z10 z11 z12 z13 z14 z15 z16 z17
    obtain ⟨z0, z1, z2, z3, z4, z5, z6, z7, z8, z9, z10, z11, z12, z13, z14, z15, z16, z17⟩ := cells18 (HK.out.at 0 rfl)
    go_wp2_with fail
    refine (C4.out _ (DR4.out.oldn HK.out)).mono ?_
    rintro e w5 ⟨rfl, hb⟩
    replace HK := Lib.hid ((HK.out.after hb).more (.cells #[.int .u32 b0, .int .u32 b1, .int .u32 b2, .int .u32 b3'] 24 (0, 0)))
    clear hb z0 z1 z2 z3 z4 z5 z6 z7 z8 z9 z10 z11 z12 z13 z14 z15 z16 z17
    obtain ⟨z0, z1, z2, z3, z4, z5, z6, z7, z8, z9, z10, z11, z12, z13, z14, z15, z16, z17⟩ := cells18 (HK.out.at 0 rfl)
    obtain ⟨t0, t1, t2, t3, _⟩ := cells4 (HK.out.at 1 rfl)
    obtain ⟨u0, u1, u2, u3, _⟩ := cells4 (HK.out.at 2 rfl)
    go_wp2_with fail
    refine (C5.out _ (DP3.out.kept HK.out.be.plain) (DP4.out.kept HK.out.be.plain)).mono ?_
    rintro e w6 ⟨rfl, hb⟩
    replace HK := Lib.hid (HK.out.after hb)
    clear hb
    go_wp2_with fail
    go_ret
    exact ⟨rfl, HK.out.be.plain⟩
theorem walk {r00 r01 r02 r03 r10 r11 r12 r13 r20 r21 r22 r23 I3 I4 : Int} {A3 B3 A4 B4 : Option Addr} {n3 c3 m3 d3 n4 c4 m4 d4 : Nat} {l3 k3 l4 k4 : Dl} (o0 : Ok4 [r00, r01, r02, r03]) (o1 : Ok4 [r10, r11, r12, r13]) (o2 : Ok4 [r20, r21, r22, r23])
    (s3 : l3.length = n3 ∧ n3 ≤ c3 ∧ c3 ≤ maxLen) (p3 : k3.length = m3 ∧ m3 ≤ d3 ∧ d3 ≤ maxLen) (s4 : l4.length = n4 ∧ n4 ≤ c4 ∧ c4 ≤ maxLen) (p4 : k4.length = m4 ∧ m4 ≤ d4 ∧ d4 ≤ maxLen) (w : World) (ds3 : Dd w A3 l3) (dp3 : Dd w B3 k3) (ds4 : Dd w A4 l4) (dp4 : Dd w B4 k4) (ht : Tabs w) :
    Calls Tryd.prog 8 #[.agg #[.int .u32 r00, .int .u32 r01, .int .u32 r02, .int .u32 r03, .int .u32 r10, .int .u32 r11, .int .u32 r12, .int .u32 r13, .int .u32 r20, .int .u32 r21, .int .u32 r22, .int .u32 r23, .int .i64 I3, .slice A3 n3 c3, .slice B3 m3 d3, .int .i64 I4, .slice A4 n4 c4, .slice B4 m4 d4]] w fun e w' => e = .returned (.bool true) ∧ Below w.heap.size w w' := by
  by_cases h1 : 40 < n3
  · exact walk_a o0 o1 o2 s3 p3 s4 p4 h1 w ds3 dp3 ds4 dp4 ht
  by_cases h2 : 40 < n4
  · exact walk_b o0 o1 o2 s3 p3 s4 p4 ⟨by omega, h2⟩ w ds3 dp3 ds4 dp4 ht
  by_cases h3 : 6 < m3
  · exact walk_c o0 o1 o2 s3 p3 s4 p4 ⟨by omega, by omega, h3⟩ w ds3 dp3 ds4 dp4 ht
  by_cases h4 : I3 = I4
  · subst h4
    by_cases h5 : m3 = m4
    · subst h5
      cases hk : khd [r00, r01, r02, r03] [r10, r11, r12, r13] I3 l3 k3 with
      | false => exact walk_f o0 o1 o2 s3 p3 s4 p4 ⟨by omega, by omega, by omega⟩ hk w ds3 dp3 ds4 dp4 ht
      | true =>
        cases hk2 : khd [r00, r01, r02, r03] [r20, r21, r22, r23] I3 l4 k4 with
        | false => exact walk_g o0 o1 o2 s3 p3 s4 p4 ⟨by omega, by omega, by omega⟩ hk hk2 w ds3 dp3 ds4 dp4 ht
        | true => exact walk_h o0 o1 o2 s3 p3 s4 p4 ⟨by omega, by omega, by omega⟩ hk hk2 w ds3 dp3 ds4 dp4 ht
    · exact walk_e o0 o1 o2 s3 p3 s4 p4 ⟨by omega, by omega, by omega, rfl, h5⟩ w ds3 dp3 ds4 dp4 ht
  · exact walk_d o0 o1 o2 s3 p3 s4 p4 ⟨by omega, by omega, by omega, h4⟩ w ds3 dp3 ds4 dp4 ht

set_option maxRecDepth 100000 in
theorem contract (H : Type) (enc : TypeId × Value → H) (W : World) (base : Nat) (args : Array Value) (ds gs : List (DataW H)) (before : List MemPlace)
    (hval : ∀ (j : Nat) t v, Tryd.f8.params[j]? = some t → args[j]? = some v → Value.okWide Tryd.prog W .any base t v)
    (hW : DataW.Whole enc Tryd.prog Tryd.f8.params.toList Rows.keysClashSpec.vars false W args.toList ds gs before) (hL : laidMetH Tryd.prog Rows.keysClashRow.laid W) :
    Calls Tryd.prog 8 args W fun e W' => ∃ v, e = .returned v ∧ Rows.keysClashSpec.post enc Tryd.prog Tryd.f8 false true false false W args v W' := by
  have hW' := hW
  obtain ⟨p, q, hA0, hV, rfl, hfz, hnd⟩ := hW
  have hA : DataW.TrodAll enc Tryd.prog W 0 (fun _ => true) true Tryd.f8.params.toList args.toList ds p := hA0
  rw [Tryd.params8] at hA hval
  obtain ⟨v0, vs0, d0, ds0, p0, q0, hargs, rfl, rfl, h0, r0⟩ := trodAll_cons hA
  obtain ⟨rfl, rfl, rfl⟩ := trodAll_nil r0
  obtain rfl : args = #[v0] := by cases args; simp_all
  obtain ⟨rfl, rfl⟩ := trodVars_none hV
  have lt0 : ∀ x ∈ p0, x.block < W.heap.size := by obtain ⟨m, hm⟩ := h0; exact DataW.trod_lt m _ _ _ hm
  obtain ⟨r00, r01, r02, r03, r10, r11, r12, r13, r20, r21, r22, r23, I3, A3, n3, c3, l3, B3, m3, d3, k3, I4, A4, n4, c4, l4, B4, m4, d4, k4, rfl, oP0, oP1, oP2, ⟨hS3, hP3⟩, hS4, hP4⟩ := open_pr (hval 0 49 v0 rfl rfl) h0
  clear hA0
  refine (walk oP0 oP1 oP2 ⟨hS3.1, hS3.2.1, hS3.2.2.1⟩ ⟨hP3.1, hP3.2.1, hP3.2.2.1⟩ ⟨hS4.1, hS4.2.1, hS4.2.2.1⟩ ⟨hP4.1, hP4.2.1, hP4.2.2.1⟩ W hS3.2.2.2 hP3.2.2.2 hS4.2.2.2 hP4.2.2.2 (tabs_of hL)).mono fun e W' ⟨he, bel⟩ => ?_
  subst he
  exact ⟨_, rfl, _, _, _, [], _, [], hW', trodAll_mk1 (shut_bool Tryd.underlying4 _), (trodAll_cons_mk (Below.trod laidOut (by kernel_rfl) (of_decide_eq_true (by kernel_rfl)) h0 bel lt0) trodAll_mk0), rfl, bel.frame _, fun h => by cases h⟩

theorem laid_met (os : Os) : laidMet Tryd.prog Rows.keysClashRow.laid ((laidWorld os).forCall (fun _ _ => 0) ⟨#[], #[.agg #[.int .u32 0, .int .u32 0, .int .u32 0, .int .u32 0, .int .u32 0, .int .u32 0, .int .u32 0, .int .u32 0, .int .u32 0, .int .u32 0, .int .u32 0, .int .u32 0, .int .i64 0, .slice none 0 0, .slice none 0 0, .int .i64 0, .slice none 0 0, .slice none 0 0]], []⟩).memory :=
  laidMet_of_run' 8 (by kernel_rfl) (by kernel_rfl)
theorem reads (os : Os) {H : Type} (enc : TypeId × Value → H) : ∃ places, DataW.whole enc Tryd.prog ((laidWorld os).forCall (fun _ _ => 0) ⟨#[], #[.agg #[.int .u32 0, .int .u32 0, .int .u32 0, .int .u32 0, .int .u32 0, .int .u32 0, .int .u32 0, .int .u32 0, .int .u32 0, .int .u32 0, .int .u32 0, .int .u32 0, .int .i64 0, .slice none 0 0, .slice none 0 0, .int .i64 0, .slice none 0 0, .slice none 0 0]], []⟩).memory Tryd.f8.params.toList Rows.keysClashSpec.vars false (#[.agg #[.int .u32 0, .int .u32 0, .int .u32 0, .int .u32 0, .int .u32 0, .int .u32 0, .int .u32 0, .int .u32 0, .int .u32 0, .int .u32 0, .int .u32 0, .int .u32 0, .int .i64 0, .slice none 0 0, .slice none 0 0, .int .i64 0, .slice none 0 0, .slice none 0 0]] : Array Value).toList 8 = some ([.agg [.agg [.lit (.int .u32 0), .lit (.int .u32 0), .lit (.int .u32 0), .lit (.int .u32 0)], .agg [.lit (.int .u32 0), .lit (.int .u32 0), .lit (.int .u32 0), .lit (.int .u32 0)], .agg [.lit (.int .u32 0), .lit (.int .u32 0), .lit (.int .u32 0), .lit (.int .u32 0)], .agg [.lit (.int .i64 0), .nil, .nil], .agg [.lit (.int .i64 0), .nil, .nil]]], [], places) :=
  ⟨[], by kernel_rfl⟩

set_option maxRecDepth 100000 in
theorem lifted (os : Os) (started : os.Started) (H : Type) (enc : TypeId × Value → H) (F : Stop.Interp) :
    ReturnsInHanded {} Tryd.checked os 8 .any ((OpenSpec.ofChange Rows.keysClashSpec).preRow enc Tryd.prog Tryd.f8 Rows.keysClashRow.domain false Rows.keysClashRow.laid) (((OpenSpec.ofChange Rows.keysClashSpec).at F).post enc Tryd.prog Tryd.f8 false true false false) := by
  obtain ⟨places, hx⟩ := reads os enc
  refine returnsInHanded_of_row (C := Tryd.checked) (s := OpenSpec.ofChange Rows.keysClashSpec) own started (by kernel_rfl) Tryd.func8
    (witness_row_at (enc := enc) (C := Tryd.checked) false (laidWorld os) #[.agg #[.int .u32 0, .int .u32 0, .int .u32 0, .int .u32 0, .int .u32 0, .int .u32 0, .int .u32 0, .int .u32 0, .int .u32 0, .int .u32 0, .int .u32 0, .int .u32 0, .int .i64 0, .slice none 0 0, .slice none 0 0, .int .i64 0, .slice none 0 0, .slice none 0 0]] rfl (by kernel_rfl) (by kernel_rfl) (by kernel_rfl)
      (OpenSpec.preRow_of_cond 8 hx (by kernel_rfl) (fun k hk => by cases hk) (by kernel_rfl) (laid_met os))) ?_
  intro W base args ds gs before hval hW _ _ _ hL _ _
  exact contract H enc W base args ds gs before hval hW hL

theorem said : Rows.KeysClashSaid :=
  OpenClaim.holds_of_cond 8 Tryd.f8 rfl rfl rfl rfl rfl rfl rfl ⟨rfl, rfl, rfl, rfl, rfl⟩ rfl rfl rfl rfl rfl (by kernel_rfl) Tryd.func8 (by kernel_rfl)
    (of_decide_eq_true (by kernel_rfl)) (by unfold Func.isWrapper; first | (rw [if_pos (by decide +kernel)]; kernel_rfl) | (rw [if_neg (by decide +kernel)]; exact ⟨rfl, rfl⟩))
    (fun os started H enc _ F => by rw [OpenClaim.pre_eq_preRow]; exact lifted os started H enc F)

theorem plain (f : FuncId) (fn : Func) (hf : Tryd.pinned.checked.prog.funcNamed "seedcorn/seedcornlaw06.KeysClash" = some f) (hfn : Tryd.pinned.checked.prog.funcs[f]? = some fn) :
    false = Tryd.pinned.checked.prog.looks [] ∧ ∀ (j : Nat) t, fn.params[j]? = some t → Tryd.pinned.checked.prog.wantsStandIn t = false := by
  obtain rfl : f = 8 := Option.some.inj ((show Tryd.prog.funcNamed "seedcorn/seedcornlaw06.KeysClash" = some 8 by kernel_rfl).symm.trans hf) |>.symm
  obtain rfl : fn = Tryd.f8 := (Option.some.inj (Tryd.func8.symm.trans hfn)).symm
  refine ⟨by kernel_rfl, fun j t ht => ?_⟩
  rw [Tryd.params8] at ht
  have hm := Array.mem_of_getElem? ht
  have hm' : t = 49 := by simpa using hm
  rcases hm' with rfl
  · exact (show Tryd.prog.wantsStandIn 49 = false by kernel_rfl)

/-- The card. -/
theorem card : Rows.KeysClashCardSaid :=
  Claim7.holds_tied_plain_at .later [] _ _ _ _ said (fun _ h => by cases h) (by kernel_rfl) (fun _ h => by cases h) keysClash_row_tie rfl ⟨rfl, rfl⟩ (by kernel_rfl) rfl plain (by kernel_rfl)
end Go.Proofs.YtfbefenagnlnfaaDoor.keysClash
