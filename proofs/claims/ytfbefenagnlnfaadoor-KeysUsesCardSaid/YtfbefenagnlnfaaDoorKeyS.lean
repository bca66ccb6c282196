/- Keys' checks and signers: the contracts of keys' Check, New and Use. -/
import Derived.Test.YtfbefenagnlnfaaDoorKeyE
import Derived.Test.YtfbefenagnlnfaaDoorGKb
set_option linter.unusedVariables false
namespace Go.Proofs.YtfbefenagnlnfaaDoor
open Go.RowKit

/-- What layer 4's Check says of a way up of a full tree. -/
theorem khd_code {pub key msg : Ws} {idx : Int} {one path : Dl} {B : Option Addr} {m d : Nat} (hp : Ok4 pub) (hk : Ok4 key) (he : rch msg one = key) (h35 : one.length = 35) (h4 : path.length ≤ 4) (hm : path.length = m) (h1 : m ≤ d) (h2 : d ≤ maxLen) (W : World) (hd : Dd W B path) (ht : Tabs W) :
    Calls Tryd.prog 37 #[ag pub, .int .i64 ((2 ^ m : Nat) : Int), .int .i64 idx, ag key, .slice B m d] W fun e w' => e = .returned (.bool (khd pub msg idx one path)) ∧ Below W.heap.size W w' := by
  obtain ⟨p0, p1, p2, p3, rfl, _⟩ := ok4 hp
  obtain ⟨k0, k1, k2, k3, rfl, _⟩ := ok4 hk
  have h16 := two_le (h := m) (by omega)
  by_cases hf : idx < 0 ∨ ((2 ^ m : Nat) : Int) ≤ idx
  · rw [khd_far (by rw [hm]; exact hf)]
    exact check_no B m d W (.inr hf)
  · obtain ⟨i, rfl⟩ : ∃ i : Nat, idx = (i : Int) := ⟨idx.toNat, by omega⟩
    have hi : i < 2 ^ m := by omega
    have hc := check_yes (r0 := p0) (r1 := p1) (r2 := p2) (r3 := p3) (A := B) (n := 2 ^ m) (i := i) (c := m) (cap := d) W hi (by omega) hm (by omega) h1 (by unfold maxLen at h2; omega) hk hd ht
    rw [chk_full _ _ hm hi] at hc
    rw [khd_at h4 h35 (by rw [hm]; exact hi), he]
    exact hc
set_option maxRecDepth 100000 in
set_option maxHeartbeats 2000000 in
theorem check6_long {pub msg : Ws} {idx : Int} {one path : Dl} {v : Value} (w : World) (hp : Ok4 pub) (hm : Ok4 msg) (hv : SgV w v idx one path) (h4 : 4 < path.length) :
    Calls Tryd.prog 17 #[ag pub, ag msg, v] w fun e w' => e = .returned (.bool (khd pub msg idx one path)) ∧ Below w.heap.size w w' := by
  rw [khd_long h4]
  obtain ⟨A, n, c, B, m, d, rfl, ⟨l1, _, _, d1⟩, ⟨k1, _, _, e1⟩⟩ := hv
  obtain ⟨p0, p1, p2, p3, rfl, _⟩ := ok4 hp
  obtain ⟨y0, y1, y2, y3, rfl, _⟩ := ok4 hm
  rw [ag4, ag4]
  have HK := Lib.hid (Kc3.new w p0 p1 p2 p3 y0 y1 y2 y3 idx (.slice A n c) (.slice B m d))
  have C0 := Lib.hid (fun w => count_no (m : Int) w (.inr (by omega)))
  obtain ⟨a0, a1, a2, _⟩ := cells3 (HK.out.at 2 rfl)
  clear hp hm l1 d1 k1 e1 h4
  go_enter Tryd.func17, Tryd.ntmps17
  go_wp2_with fail
  refine (C0.out _).mono ?_
  rintro e w1 ⟨rfl, rfl⟩
  go_wp2_with fail
  go_ret
  exact ⟨rfl, HK.out.be.plain⟩
set_option maxRecDepth 100000 in
set_option maxHeartbeats 4000000 in
theorem check6_few {pub msg : Ws} {idx : Int} {one path : Dl} {v : Value} (w : World) (hp : Ok4 pub) (hm : Ok4 msg) (hv : SgV w v idx one path) (h4 : path.length ≤ 4) (h35 : one.length ≠ 35) :
    Calls Tryd.prog 17 #[ag pub, ag msg, v] w fun e w' => e = .returned (.bool (khd pub msg idx one path)) ∧ Below w.heap.size w w' := by
  rw [khd_few h35]
  obtain ⟨A, n, c, B, m, d, rfl, ⟨l1, n1, n2, d1⟩, ⟨k1, _, _, e1⟩⟩ := hv
  have c0 := fun w => count_yes m w (by omega)
  have c1 := fun w => reach_no (A := A) (n := n) (cap := c) msg w hm (by omega) (by unfold maxLen at n2; omega)
  obtain ⟨p0, p1, p2, p3, rfl, _⟩ := ok4 hp
  obtain ⟨y0, y1, y2, y3, rfl, _⟩ := ok4 hm
  rw [ag4] at c1
  rw [ag4, ag4]
  obtain ⟨N, hN⟩ : ∃ N, 2 ^ m = N := ⟨_, rfl⟩
  rw [hN] at c0
  have C0 := Lib.hid c0
  have C1 := Lib.hid c1
  have HK := Lib.hid (Kc3.new w p0 p1 p2 p3 y0 y1 y2 y3 idx (.slice A n c) (.slice B m d))
  obtain ⟨a0, a1, a2, _⟩ := cells3 (HK.out.at 2 rfl)
  obtain ⟨b0, b1, b2, b3, _⟩ := cells4 (HK.out.at 1 rfl)
  clear c0 c1 hp hm l1 d1 k1 e1 h4 h35 n1 n2 hN
  go_enter Tryd.func17, Tryd.ntmps17
  go_wp2_with fail
  refine (C0.out _).mono ?_
  rintro e w1 ⟨rfl, rfl⟩
  go_wp2_with fail
  refine (C1.out _).mono ?_
  rintro e w1 ⟨rfl, hb⟩
  replace HK : Hid (Kc3 w w1 p0 p1 p2 p3 y0 y1 y2 y3 idx (.slice A n c) (.slice B m d)) := Lib.hid (HK.out.after hb)
  clear hb a0 a1 a2 b0 b1 b2 b3
  have HB := Lib.hid ((HK.out.be.plain).alloc HK.out.be.plain.size (.cells #[.int .u32 0, .int .u32 0, .int .u32 0, .int .u32 0] 24))
  go_wp2_with fail
  go_ret
  exact ⟨rfl, HB.out⟩
set_option maxRecDepth 100000 in
set_option maxHeartbeats 4000000 in
theorem check6_row {pub msg : Ws} {idx : Int} {one path : Dl} {v : Value} (w : World) (hp : Ok4 pub) (hm : Ok4 msg) (hv : SgV w v idx one path) (h4 : path.length ≤ 4) (h35 : one.length = 35) (ht : Tabs w) :
    Calls Tryd.prog 17 #[ag pub, ag msg, v] w fun e w' => e = .returned (.bool (khd pub msg idx one path)) ∧ Below w.heap.size w w' := by
  obtain ⟨A, n, c, B, m, d, rfl, ⟨l1, n1, n2, d1⟩, ⟨k1, k2, k3, e1⟩⟩ := hv
  obtain rfl : n = 35 := by omega
  obtain ⟨b, off, rfl, dr⟩ := d1.2 (by intro e; rw [e] at h35; simp at h35)
  have hok : Ok4 (rch msg one) := rch_ok d1.1 h35
  have c0 := fun w => count_yes m w (by omega)
  have c1 := fun (W : World) (hr : DRow W b off one) (ht : Tabs W) => reach_row (cap := c) msg W hm h35 n1 hr ht
  obtain ⟨key, hkey⟩ : ∃ key, rch msg one = key := ⟨_, rfl⟩
  have c2 := fun (W : World) (hd : Dd W B path) (ht : Tabs W) => khd_code (idx := idx) hp (by rw [← hkey]; exact hok) hkey h35 h4 k1 k2 k3 W hd ht
  rw [hkey] at hok c1
  obtain ⟨bb, hbb⟩ : ∃ bb, khd pub msg idx one path = bb := ⟨_, rfl⟩
  rw [hbb] at c2 ⊢
  obtain ⟨z0, z1, z2, z3, rfl, _⟩ := ok4 hok
  obtain ⟨p0, p1, p2, p3, rfl, _⟩ := ok4 hp
  obtain ⟨y0, y1, y2, y3, rfl, _⟩ := ok4 hm
  rw [ag4, ag4] at c1 c2
  rw [ag4, ag4]
  obtain ⟨N, hN⟩ : ∃ N, 2 ^ m = N := ⟨_, rfl⟩
  rw [hN] at c0 c2
  have C0 := Lib.hid c0
  have C1 := Lib.hid c1
  have C2 := Lib.hid c2
  have DR := Lib.hid dr
  have DD := Lib.hid e1
  have HT := Lib.hid ht
  have HK := Lib.hid (Kc3.new w p0 p1 p2 p3 y0 y1 y2 y3 idx (.slice (some ⟨b, off, none⟩) 35 c) (.slice B m d))
  obtain ⟨a0, a1, a2, _⟩ := cells3 (HK.out.at 2 rfl)
  obtain ⟨b0, b1, b2, b3, _⟩ := cells4 (HK.out.at 1 rfl)
  clear c0 c1 c2 hp hm l1 d1 dr k1 k2 k3 e1 h4 h35 n1 n2 hkey hbb hok hN ht
  go_enter Tryd.func17, Tryd.ntmps17
  go_wp2_with fail
  refine (C0.out _).mono ?_
  rintro e w1 ⟨rfl, rfl⟩
  go_wp2_with fail
  refine (C1.out _ (DR.out.oldn HK.out) (HT.out.oldn HK.out)).mono ?_
  rintro e w1 ⟨rfl, hb⟩
  replace HK : Hid (Kc3 w w1 p0 p1 p2 p3 y0 y1 y2 y3 idx (.slice (some ⟨b, off, none⟩) 35 c) (.slice B m d)) := Lib.hid (HK.out.after hb)
  clear hb a0 a1 a2 b0 b1 b2 b3
  have HK4 := Lib.hid (HK.out.more (.cells #[.int .u32 z0, .int .u32 z1, .int .u32 z2, .int .u32 z3] 24 (0, 0)))
  obtain ⟨a0, a1, a2, _⟩ := cells3 (HK4.out.at 2 rfl)
  obtain ⟨b0, b1, b2, b3, _⟩ := cells4 (HK4.out.at 0 rfl)
  obtain ⟨d0, d1, d2, d3, _⟩ := cells4 (HK4.out.at 3 rfl)
  clear HK
  go_wp2_with fail
  refine (C2.out _ (DD.out.kept HK4.out.be.plain) (HT.out.oldn HK4.out)).mono ?_
  rintro e w2 ⟨rfl, hb⟩
  replace HK4 := Lib.hid (HK4.out.after hb)
  clear hb
  go_wp2_with fail
  go_ret
  exact ⟨rfl, HK4.out.be.plain⟩
theorem check6 {pub msg : Ws} {idx : Int} {one path : Dl} {v : Value} (w : World) (hp : Ok4 pub) (hm : Ok4 msg) (hv : SgV w v idx one path) (ht : Tabs w) :
    Calls Tryd.prog 17 #[ag pub, ag msg, v] w fun e w' => e = .returned (.bool (khd pub msg idx one path)) ∧ Below w.heap.size w w' := by
  by_cases h4 : path.length ≤ 4
  · by_cases h35 : one.length = 35
    · exact check6_row w hp hm hv h4 h35 ht
    · exact check6_few w hp hm hv h4 h35
  · exact check6_long w hp hm hv (by omega)
theorem Kn.new (w : World) (s0 s1 s2 s3 : Int) : Kx none w ((w.alloc (.cells #[.int .u32 s0, .int .u32 s1, .int .u32 s2, .int .u32 s3] 24)).alloc (.cells #[.int .u32 0, .int .u32 0, .int .u32 0, .int .u32 0, .int .i64 0, .int .i64 0] 30))
    [(w.heap.size, .cells #[.int .u32 s0, .int .u32 s1, .int .u32 s2, .int .u32 s3] 24 (0, 0)), (w.heap.size + 1, .cells #[.int .u32 0, .int .u32 0, .int .u32 0, .int .u32 0, .int .i64 0, .int .i64 0] 30 (0, 0))] :=
  ((Kx.nil none w).more (.cells #[.int .u32 s0, .int .u32 s1, .int .u32 s2, .int .u32 s3] 24 (0, 0))).add (w.heap.size + 1) (by simp) (.cells #[.int .u32 0, .int .u32 0, .int .u32 0, .int .u32 0, .int .i64 0, .int .i64 0] 30 (0, 0))
set_option maxHeartbeats 1000000 in
theorem new6_no {s0 s1 s2 s3 : Int} (h : Int) (w : World) (hs : Ok4 [s0, s1, s2, s3]) (hh : h < 0 ∨ 4 < h) :
    Calls Tryd.prog 13 #[.agg #[.int .u32 s0, .int .u32 s1, .int .u32 s2, .int .u32 s3], .int .i64 h] w fun e w' => e = .returned (.tuple #[.agg #[.int .u32 0, .int .u32 0, .int .u32 0, .int .u32 0, .int .i64 0, .int .i64 0], .int .i64 2]) ∧ Below w.heap.size w w' := by
  have C0 := Lib.hid (fun w => count_no h w hh)
  have HK := Lib.hid (Kn.new w s0 s1 s2 s3)
  clear hs hh
  go_enter Tryd.func13, Tryd.ntmps13
  go_wp2_with fail
  refine (C0.out _).mono ?_
  rintro e w1 ⟨rfl, rfl⟩
  go_wp2_with fail
  exact bodyPost_ret (v := .tuple #[.agg #[.int .u32 0, .int .u32 0, .int .u32 0, .int .u32 0, .int .i64 0, .int .i64 0], .int .i64 2]) (by simp [results, go_sem]) rfl ⟨rfl, HK.out.be.plain⟩
set_option maxHeartbeats 1000000 in
theorem new6_yes {s0 s1 s2 s3 : Int} (h : Int) (w : World) (hs : Ok4 [s0, s1, s2, s3]) (h0 : 0 ≤ h) (h4 : h ≤ 4) :
    Calls Tryd.prog 13 #[.agg #[.int .u32 s0, .int .u32 s1, .int .u32 s2, .int .u32 s3], .int .i64 h] w fun e w' => e = .returned (.tuple #[.agg #[.int .u32 s0, .int .u32 s1, .int .u32 s2, .int .u32 s3, .int .i64 h, .int .i64 0], .int .i64 0]) ∧ Below w.heap.size w w' := by
  obtain ⟨k, rfl⟩ : ∃ k : Nat, h = (k : Int) := ⟨h.toNat, by omega⟩
  have c0 := fun w => count_yes k w (by omega)
  obtain ⟨N, hN⟩ : ∃ N, 2 ^ k = N := ⟨_, rfl⟩
  rw [hN] at c0
  have C0 := Lib.hid c0
  have HK := Lib.hid (Kn.new w s0 s1 s2 s3)
  obtain ⟨a0, a1, a2, a3, _⟩ := cells4 (HK.out.at 0 rfl)
  clear c0 hs hN h0 h4
  go_enter Tryd.func13, Tryd.ntmps13
  go_wp2_with fail
  refine (C0.out _).mono ?_
  rintro e w1 ⟨rfl, rfl⟩
  have HE := Lib.hid (((Kx.nil none w).more (.cells #[.int .u32 s0, .int .u32 s1, .int .u32 s2, .int .u32 s3] 24 (0, 0))).add (w.heap.size + 1) (by simp) (.cells #[.int .u32 s0, .int .u32 s1, .int .u32 s2, .int .u32 s3, .int .i64 (k : Int), .int .i64 0] 30 (0, 0)))
  go_wp2_with fail
  exact bodyPost_ret (v := .tuple #[.agg #[.int .u32 s0, .int .u32 s1, .int .u32 s2, .int .u32 s3, .int .i64 (k : Int), .int .i64 0], .int .i64 0]) (by simp [results, go_sem]) rfl ⟨rfl, HE.out.be.plain⟩
set_option maxRecDepth 100000 in
set_option maxHeartbeats 2000000 in
theorem use6_no {s0 s1 s2 s3 h n : Int} {msg : Ws} (w : World) (hs : Ok4 [s0, s1, s2, s3]) (hm : Ok4 msg) (hh : h < 0 ∨ 4 < h) :
    Calls Tryd.prog 19 #[.agg #[.int .u32 s0, .int .u32 s1, .int .u32 s2, .int .u32 s3, .int .i64 h, .int .i64 n], ag msg] w (UsN w 2) := by
  have c1 := fun w => sign6_no _ msg h n w hs hm hh
  obtain ⟨y0, y1, y2, y3, rfl, _⟩ := ok4 hm
  rw [ag4, ag4] at c1
  rw [ag4]
  have C1 : Hid (∀ w : World, Calls Tryd.prog 14 #[.agg #[.int .u32 s0, .int .u32 s1, .int .u32 s2, .int .u32 s3], .int .i64 h, .int .i64 n, .agg #[.int .u32 y0, .int .u32 y1, .int .u32 y2, .int .u32 y3]] w fun e w' => ∃ A a c B b d, e = .returned (.tuple #[.agg #[.int .i64 0, .slice A a c, .slice B b d], .int .i64 2]) ∧ Below w.heap.size w w') := Lib.hid (fun w => (c1 w).mono (by
    rintro e w' ⟨v, rfl, ⟨A, a, c, B, b, d, rfl, _, _⟩, hb⟩
    exact ⟨A, a, c, B, b, d, rfl, hb⟩))
  have HK := Lib.hid (Ku.new w s0 s1 s2 s3 h n y0 y1 y2 y3)
  obtain ⟨a0, a1, a2, a3, a4, a5, _⟩ := cells6 (HK.out.at 0 rfl)
  obtain ⟨b0, b1, b2, b3, _⟩ := cells4 (HK.out.at 1 rfl)
  clear c1 hs hm hh
  go_enter Tryd.func19, Tryd.ntmps19
  go_wp2_with fail
  refine (C1.out _).mono ?_
  rintro e w1 ⟨A, a, c, B, b, d, rfl, hb⟩
  replace HK := Lib.hid ((HK.out.after hb).more (.cells #[.int .i64 0, .slice A a c, .slice B b d] 38 (0, 0)))
  clear hb a0 a1 a2 a3 a4 a5 b0 b1 b2 b3
  obtain ⟨a0, a1, a2, a3, a4, a5, d0, d1, d2, d3, d4, d5⟩ := cells6 (HK.out.at 2 rfl)
  obtain ⟨b0, b1, b2, e0, e1, e2⟩ := cells3 (HK.out.at 3 rfl)
  have HE := Lib.hid ((HK.out.put6 2 rfl (.inr (by omega)) (.int .u32 0) (.int .u32 0) (.int .u32 0) (.int .u32 0) (.int .i64 0) (.int .i64 0)).put3 3 rfl (.inr (by omega)) (.int .i64 0) (.slice none 0 0) (.slice none 0 0))
  go_wp2_with fail
  exact bodyPost_ret (v := .tuple #[.agg #[.int .u32 0, .int .u32 0, .int .u32 0, .int .u32 0, .int .i64 0, .int .i64 0], .agg #[.int .i64 0, .slice none 0 0, .slice none 0 0], .int .i64 2]) (by
    obtain ⟨k0, k1, k2, k3, k4, k5, _⟩ := cells6 (HE.out.at 2 rfl)
    obtain ⟨l0, l1, l2, _⟩ := cells3 (HE.out.at 3 rfl)
    simp [results, go_sem, k0, k1, k2, k3, k4, k5, l0, l1, l2]) rfl ⟨rfl, HE.out.be.plain⟩
set_option maxRecDepth 100000 in
set_option maxHeartbeats 2000000 in
theorem use6_used {s0 s1 s2 s3 n : Int} {h : Nat} {msg : Ws} (w : World) (hs : Ok4 [s0, s1, s2, s3]) (hm : Ok4 msg) (hh : h ≤ 4) (hn : n < 0 ∨ ((2 ^ h : Nat) : Int) ≤ n) (ht : Tabs w) :
    Calls Tryd.prog 19 #[.agg #[.int .u32 s0, .int .u32 s1, .int .u32 s2, .int .u32 s3, .int .i64 (h : Int), .int .i64 n], ag msg] w (UsN w 9) := by
  have c1 := fun w ht => sign6_arg _ msg h n w hs hm hh hn ht
  obtain ⟨y0, y1, y2, y3, rfl, _⟩ := ok4 hm
  rw [ag4, ag4] at c1
  rw [ag4]
  have C1 : Hid (∀ w : World, Tabs w → Calls Tryd.prog 14 #[.agg #[.int .u32 s0, .int .u32 s1, .int .u32 s2, .int .u32 s3], .int .i64 (h : Int), .int .i64 n, .agg #[.int .u32 y0, .int .u32 y1, .int .u32 y2, .int .u32 y3]] w fun e w' => ∃ A a c B b d, e = .returned (.tuple #[.agg #[.int .i64 0, .slice A a c, .slice B b d], .int .i64 1]) ∧ Below w.heap.size w w') := Lib.hid (fun w ht => (c1 w ht).mono (by
    rintro e w' ⟨v, rfl, ⟨A, a, c, B, b, d, rfl, _, _⟩, hb⟩
    exact ⟨A, a, c, B, b, d, rfl, hb⟩))
  have HT := Lib.hid ht
  have HK := Lib.hid (Ku.new w s0 s1 s2 s3 (h : Int) n y0 y1 y2 y3)
  obtain ⟨a0, a1, a2, a3, a4, a5, _⟩ := cells6 (HK.out.at 0 rfl)
  obtain ⟨b0, b1, b2, b3, _⟩ := cells4 (HK.out.at 1 rfl)
  clear c1 hs hm hh hn ht
  go_enter Tryd.func19, Tryd.ntmps19
  go_wp2_with fail
  refine (C1.out _ (HT.out.oldn HK.out)).mono ?_
  rintro e w1 ⟨A, a, c, B, b, d, rfl, hb⟩
  replace HK := Lib.hid ((HK.out.after hb).more (.cells #[.int .i64 0, .slice A a c, .slice B b d] 38 (0, 0)))
  clear hb a0 a1 a2 a3 a4 a5 b0 b1 b2 b3
  obtain ⟨a0, a1, a2, a3, a4, a5, d0, d1, d2, d3, d4, d5⟩ := cells6 (HK.out.at 2 rfl)
  obtain ⟨b0, b1, b2, e0, e1, e2⟩ := cells3 (HK.out.at 3 rfl)
  have HE := Lib.hid ((HK.out.put6 2 rfl (.inr (by omega)) (.int .u32 0) (.int .u32 0) (.int .u32 0) (.int .u32 0) (.int .i64 0) (.int .i64 0)).put3 3 rfl (.inr (by omega)) (.int .i64 0) (.slice none 0 0) (.slice none 0 0))
  go_wp2_with fail
  exact bodyPost_ret (v := .tuple #[.agg #[.int .u32 0, .int .u32 0, .int .u32 0, .int .u32 0, .int .i64 0, .int .i64 0], .agg #[.int .i64 0, .slice none 0 0, .slice none 0 0], .int .i64 9]) (by
    obtain ⟨k0, k1, k2, k3, k4, k5, _⟩ := cells6 (HE.out.at 2 rfl)
    obtain ⟨l0, l1, l2, _⟩ := cells3 (HE.out.at 3 rfl)
    simp [results, go_sem, k0, k1, k2, k3, k4, k5, l0, l1, l2]) rfl ⟨rfl, HE.out.be.plain⟩
set_option maxRecDepth 100000 in
set_option maxHeartbeats 4000000 in
theorem use6_yes {s0 s1 s2 s3 : Int} {h n : Nat} {msg : Ws} (w : World) (hs : Ok4 [s0, s1, s2, s3]) (hm : Ok4 msg) (hh : h ≤ 4) (hn : n < 2 ^ h) (ht : Tabs w) :
    Calls Tryd.prog 19 #[.agg #[.int .u32 s0, .int .u32 s1, .int .u32 s2, .int .u32 s3, .int .i64 (h : Int), .int .i64 (n : Int)], ag msg] w (UsE w s0 s1 s2 s3 (h : Int) ((n : Int) + 1) (n : Int) (sgn (ksd [s0, s1, s2, s3] n) msg) (mway (kys [s0, s1, s2, s3] h) n)) := by
  have c1 := fun w ht => sign6_yes _ msg h n w hs hm hh hn ht
  have h16 := two_le hh
  obtain ⟨S, hS⟩ : ∃ S, sgn (ksd [s0, s1, s2, s3] n) msg = S := ⟨_, rfl⟩
  obtain ⟨P, hP⟩ : ∃ P, mway (kys [s0, s1, s2, s3] h) n = P := ⟨_, rfl⟩
  rw [hS, hP] at c1 ⊢
  obtain ⟨y0, y1, y2, y3, rfl, _⟩ := ok4 hm
  rw [ag4, ag4] at c1
  rw [ag4]
  have C1 : Hid (∀ w : World, Tabs w → Calls Tryd.prog 14 #[.agg #[.int .u32 s0, .int .u32 s1, .int .u32 s2, .int .u32 s3], .int .i64 (h : Int), .int .i64 (n : Int), .agg #[.int .u32 y0, .int .u32 y1, .int .u32 y2, .int .u32 y3]] w fun e w' => ∃ A a c B b d, e = .returned (.tuple #[.agg #[.int .i64 (n : Int), .slice A a c, .slice B b d], .int .i64 0]) ∧ SgX w' w.heap.size (.agg #[.int .i64 (n : Int), .slice A a c, .slice B b d]) (n : Int) S P ∧ Below w.heap.size w w') := Lib.hid (fun w ht => (c1 w ht).mono (by
    rintro e w' ⟨v, rfl, hv, hb⟩
    obtain ⟨A, a, c, B, b, d, rfl, h1, h2⟩ := hv
    exact ⟨A, a, c, B, b, d, rfl, ⟨A, a, c, B, b, d, rfl, h1, h2⟩, hb⟩))
  have HT := Lib.hid ht
  have HK := Lib.hid (Ku.new w s0 s1 s2 s3 (h : Int) (n : Int) y0 y1 y2 y3)
  have i0 : ¬ (h : Int) < 0 := by omega
  have i1 : ¬ (4 : Int) < (h : Int) := by omega
  have i2 : (0 : Int) ≤ (h : Int) := by omega
  have i3 : (h : Int) ≤ 4 := by omega
  have i4 : (0 : Int) ≤ (n : Int) := by omega
  have i5 : (n : Int) ≤ 16 := by omega
  obtain ⟨a0, a1, a2, a3, a4, a5, _⟩ := cells6 (HK.out.at 0 rfl)
  obtain ⟨b0, b1, b2, b3, _⟩ := cells4 (HK.out.at 1 rfl)
  clear c1 hs hm hh hn ht h16 hS hP
  go_enter Tryd.func19, Tryd.ntmps19
  go_wp2_with fail
  refine (C1.out _ (HT.out.oldn HK.out)).mono ?_
  rintro e w1 ⟨A, a, c, B, b, d, rfl, hv, hb⟩
  have hq := HK.out.lt 3 rfl
  have HR4 : Hid (w.heap.size < w.heap.size + 1 + 1 + 1 + 1 ∧ w.heap.size + 1 + 1 < w.heap.size + 1 + 1 + 1 + 1 ∧ w.heap.size + 1 + 1 + 1 < w.heap.size + 1 + 1 + 1 + 1 ∧ w.heap.size ≤ w.heap.size + 1 + 1 + 1 + 1) := Lib.hid ⟨by omega, by omega, by omega, by omega⟩
  have HV : Hid (SgX w1 (w.heap.size + 1 + 1 + 1 + 1) (.agg #[.int .i64 (n : Int), .slice A a c, .slice B b d]) (n : Int) S P) := Lib.hid (hv.low (by simp))
  replace HK := Lib.hid ((HK.out.after hb).more (.cells #[.int .i64 (n : Int), .slice A a c, .slice B b d] 38 (0, 0)))
  have HQ := Lib.hid (show w.heap.size ≤ w1.heap.size from by have := hb.size; simp at this; omega)
  have HZ := Lib.hid (show w.heap.size + 1 + 1 + 1 < w1.heap.size from by have := hb.size; simp at this; omega)
  clear hb hv hq a0 a1 a2 a3 a4 a5 b0 b1 b2 b3
  obtain ⟨a0, a1, a2, a3, a4, a5, d0, d1, d2, d3, d4, d5⟩ := cells6 (HK.out.at 0 rfl)
  go_wp2_with fail
  have HK1 := Lib.hid (HK.out.put65 0 rfl (.inr (Nat.le_refl _)) (.int .i64 ((n : Int) + 1)))
  have HX1 := Lib.hid (((HV.out.kept ((Below.refl _ w1).alloc (Nat.le_refl _) (.cells #[.int .i64 (n : Int), .slice A a c, .slice B b d] 38 (0, 0)))).set HR4.out.1 5 (.int .i64 ((n : Int) + 1))))
  clear HK HV a0 a1 a2 a3 a4 a5 d0 d1 d2 d3 d4 d5
  obtain ⟨W1, hW1⟩ : ∃ W, (w1.alloc (.cells #[.int .i64 (n : Int), .slice A a c, .slice B b d] 38)).setCell ⟨w.heap.size, 5, none⟩ (.int .i64 ((n : Int) + 1)) = W := ⟨_, rfl⟩
  rw [hW1] at HK1 HX1 ⊢
  clear hW1
  obtain ⟨p0, p1, p2, p3, p4, p5, _⟩ := cells6 (HK1.out.at 0 rfl)
  obtain ⟨a0, a1, a2, a3, a4, a5, d0, d1, d2, d3, d4, d5⟩ := cells6 (HK1.out.at 2 rfl)
  obtain ⟨b0, b1, b2, e0, e1, e2⟩ := cells3 (HK1.out.at 3 rfl)
  obtain ⟨c0, c1, c2, _⟩ := cells3 (HK1.out.at 4 rfl)
  have hz := HZ.out
  have n1 : ¬ w1.heap.size = w.heap.size + 1 + 1 := by omega
  have n2 : ¬ w.heap.size + 1 + 1 = w1.heap.size := by omega
  have n3 : ¬ w1.heap.size = w.heap.size + 1 + 1 + 1 := by omega
  have n4 : ¬ w.heap.size + 1 + 1 + 1 = w1.heap.size := by omega
  clear hz
  go_region
  have HE := Lib.hid ((HK1.out.put6 2 rfl (.inr (by omega)) (.int .u32 s0) (.int .u32 s1) (.int .u32 s2) (.int .u32 s3) (.int .i64 (h : Int)) (.int .i64 ((n : Int) + 1))).put3 3 rfl (.inr (by omega)) (.int .i64 (n : Int)) (.slice A a c) (.slice B b d)).drew
  have HX := Lib.hid ((((((((((HX1.out.set HR4.out.2.1 0 (.int .u32 s0)).set HR4.out.2.1 1 (.int .u32 s1)).set HR4.out.2.1 2 (.int .u32 s2)).set HR4.out.2.1 3 (.int .u32 s3)).set HR4.out.2.1 4 (.int .i64 (h : Int))).set HR4.out.2.1 5 (.int .i64 ((n : Int) + 1))).set HR4.out.2.2.1 0 (.int .i64 (n : Int))).set HR4.out.2.2.1 1 (.slice A a c)).set HR4.out.2.2.1 2 (.slice B b d)).drew.low HR4.out.2.2.2)
  go_wp2_with fail
  exact bodyPost_ret (v := .tuple #[.agg #[.int .u32 s0, .int .u32 s1, .int .u32 s2, .int .u32 s3, .int .i64 (h : Int), .int .i64 ((n : Int) + 1)], .agg #[.int .i64 (n : Int), .slice A a c, .slice B b d], .int .i64 0]) (by
    obtain ⟨k0, k1, k2, k3, k4, k5, _⟩ := cells6 (HE.out.at 2 rfl)
    obtain ⟨l0, l1, l2, _⟩ := cells3 (HE.out.at 3 rfl)
    simp [results, go_sem, k0, k1, k2, k3, k4, k5, l0, l1, l2]) rfl ⟨_, rfl, HX.out, HE.out.be.plain⟩
end Go.Proofs.YtfbefenagnlnfaaDoor
