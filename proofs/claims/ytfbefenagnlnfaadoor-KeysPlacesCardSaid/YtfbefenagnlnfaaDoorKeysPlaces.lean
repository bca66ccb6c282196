/- The law KeysPlaces: for every seed, place and message it returns true, and all read as before. The tables that it reads hold what the program's text lays (the card ties them). No other condition. -/
import Derived.Test.YtfbefenagnlnfaaDoorKeyR
import Derived.Test.YtfbefenagnlnfaaDoorKeyW
namespace Go.Proofs.YtfbefenagnlnfaaDoor.keysPlaces
open Go.ChangeShapes Go.WideShapes Go.ChangeAt Go.RowKit
set_option linter.unusedVariables false

theorem cellsB {w : World} {b : Nat} {t : TypeId} {v0 v1 v2 : Value} (h : w.heap[b]? = some (.cells #[v0, v1, v2] t (0, 0))) : w.cell? ⟨b, 0, none⟩ = some v0 ∧ w.cell? ⟨b, 1, none⟩ = some v1 ∧ w.cell? ⟨b, 2, none⟩ = some v2 := by
  simp [World.cell?, h]
theorem sgv_at {w : World} {i k : Int} {A B : Option Addr} {n c m d : Nat} {one path : Dl} (h : SgV w (.agg #[.int .i64 i, .slice A n c, .slice B m d]) i one path) : SgV w (.agg #[.int .i64 k, .slice A n c, .slice B m d]) k one path := by
  obtain ⟨A', n', c', B', m', d', he, h1, h2⟩ := h
  simp only [Value.agg.injEq, Array.mk.injEq, List.cons.injEq, Value.slice.injEq, and_true, true_and] at he
  obtain ⟨⟨rfl, rfl, rfl⟩, rfl, rfl, rfl⟩ := he
  exact ⟨_, _, _, _, _, _, rfl, h1, h2⟩
theorem sgv_parts {w : World} {i : Int} {A B : Option Addr} {n c m d : Nat} {one path : Dl} (h : SgV w (.agg #[.int .i64 i, .slice A n c, .slice B m d]) i one path) : (path.length = m ∧ m ≤ d ∧ d ≤ maxLen ∧ Dd w B path) := by
  obtain ⟨A', n', c', B', m', d', he, h1, h2⟩ := h
  simp only [Value.agg.injEq, Array.mk.injEq, List.cons.injEq, Value.slice.injEq, and_true, true_and] at he
  obtain ⟨⟨rfl, rfl, rfl⟩, rfl, rfl, rfl⟩ := he
  exact h2
theorem khd_clb {pub msg : Ws} {idx : Int} {one path : Dl} (h : khd pub msg idx one path = true) : clb idx.toNat (rch msg one) path = pub := by
  unfold khd at h
  simp only [Bool.and_eq_true, decide_eq_true_eq] at h
  simpa [same] using h.2
set_option maxRecDepth 100000 in
set_option maxHeartbeats 4000000 in
theorem walk_no {x0 x1 x2 x3 y0 y1 y2 z0 z1 z2 z3 : Int} {h i k N : Nat} (o0 : Ok4 [x0, x1, x2, x3]) (o1 : Ok4 [z0, z1, z2, z3]) (hh : h = 1 ∨ h = 2) (hN : N = 2 * h) (hi : i < N) (hk : k < N) (b0 : 0 ≤ y0 ∧ y0 < 256) (b1 : 0 ≤ y1 ∧ y1 < 256) (b2 : 0 ≤ y2 ∧ y2 < 256) (eh : 1 + y0 % 2 = (h : Int)) (ei : y1 % (N : Int) = (i : Int)) (ek : y2 % (N : Int) = (k : Int)) (hbb : khd (kpub [x0, x1, x2, x3] h) [z0, z1, z2, z3] (k : Int) (sgn (ksd [x0, x1, x2, x3] i) [z0, z1, z2, z3]) (mway (kys [x0, x1, x2, x3] h) i) = false) (w : World) (ht : Tabs w) :
    Calls Tryd.prog 9 #[ag [x0, x1, x2, x3], .agg #[.int .u8 y0, .int .u8 y1, .int .u8 y2], ag [z0, z1, z2, z3]] w fun e w' => e = .returned (.bool true) ∧ Below w.heap.size w w' := by
  have CA := Lib.hid (fun w ht => awake6 w ht)
  have hp2 : 2 ^ h = N := by rcases hh with rfl | rfl <;> omega
  have h4 : h ≤ 4 := by omega
  have c1 := fun w ht => sign6_yes _ _ h i w o0 o1 h4 (by omega) ht
  have c2 := fun w ht => public6_yes _ h w o0 h4 ht
  have op := kpub_ok o0 h
  have hkh := khd_sig (seed := [x0, x1, x2, x3]) (msg := [z0, z1, z2, z3]) (h := h) (i := i) h4 (by omega)
  have c3 := fun (v : Value) (w : World) hv ht => check6 (idx := (i : Int)) (one := sgn (ksd [x0, x1, x2, x3] i) [z0, z1, z2, z3]) (path := mway (kys [x0, x1, x2, x3] h) i) (v := v) w op o1 hv ht
  have c4 := fun (v : Value) (w : World) hv ht => check6 (idx := (k : Int)) (one := sgn (ksd [x0, x1, x2, x3] i) [z0, z1, z2, z3]) (path := mway (kys [x0, x1, x2, x3] h) i) (v := v) w op o1 hv ht
  rw [hkh] at c3
  rw [hbb] at c4
  obtain ⟨p0, p1, p2, p3, ep, _⟩ := ok4 op
  obtain ⟨S, hS⟩ : ∃ S, sgn (ksd [x0, x1, x2, x3] i) [z0, z1, z2, z3] = S := ⟨_, rfl⟩
  obtain ⟨R, hR⟩ : ∃ R, mway (kys [x0, x1, x2, x3] h) i = R := ⟨_, rfl⟩
  rw [hS, hR] at c1 c3 c4
  rw [ep] at c2 c3 c4
  rw [ag4, ag4] at c1 c2 c3 c4
  rw [ag4, ag4]
  have C1 := Lib.hid c1
  have C2 := Lib.hid c2
  have C3 := Lib.hid c3
  have C4 := Lib.hid c4
  have HT := Lib.hid ht
  have HK := Lib.hid ((((Kx.nil none w).more (.cells #[.int .u32 x0, .int .u32 x1, .int .u32 x2, .int .u32 x3] 24 (0, 0))).add (w.heap.size + 1) (by simp) (.cells #[.int .u8 y0, .int .u8 y1, .int .u8 y2] 54 (0, 0))).add (w.heap.size + 1 + 1) (by simp) (.cells #[.int .u32 z0, .int .u32 z1, .int .u32 z2, .int .u32 z3] 24 (0, 0)))
  obtain ⟨b00, b01⟩ := b0
  obtain ⟨b10, b11⟩ := b1
  obtain ⟨b20, b21⟩ := b2
  have e2 : 2 * (h : Int) = (N : Int) := by omega
  have e3 : (0 : Int) < (N : Int) := by omega
  have e4 : ¬ (N : Int) = 0 := by omega
  have e5 : (N : Int) ≤ 4 := by omega
  have e6 : (h : Int) ≤ 2 := by omega
  have e7 : (1 : Int) ≤ (h : Int) := by omega
  have e8 : (0 : Int) ≤ (i : Int) := by omega
  have e9 : (0 : Int) ≤ (k : Int) := by omega
  clear ht c1 c2 c3 c4 hkh hS hR ep op hp2 h4 hh hN hi hk hbb
  go_enter Tryd.func9, Tryd.ntmps9
  go_wp2_with fail
  refine (CA.out _ (HT.out.oldn HK.out)).mono ?_
  rintro e w1 ⟨rfl, hb⟩
  replace HK := Lib.hid (HK.out.after hb)
  clear hb
  obtain ⟨f0, f1, f2⟩ := cellsB (HK.out.at 1 rfl)
  obtain ⟨a0, a1, a2, a3, _⟩ := cells4 (HK.out.at 0 rfl)
  obtain ⟨g0, g1, g2, g3, _⟩ := cells4 (HK.out.at 2 rfl)
  go_wp2_with fail
  refine (C1.out _ (HT.out.oldn HK.out)).mono ?_
  rintro e w2 ⟨v1, rfl, hx, hb⟩
  have hv1 := hx.v
  obtain ⟨A, n, c, B, m, d, rfl, _, _⟩ := hx
  replace HK := Lib.hid ((HK.out.after hb).more (.cells #[.int .i64 (i : Int), .slice A n c, .slice B m d] 38 (0, 0)))
  have HV := Lib.hid (hv1.kept ((Below.refl _ w2).alloc (Nat.le_refl _) (.cells #[.int .i64 (i : Int), .slice A n c, .slice B m d] 38 (0, 0))))
  clear hb hv1 f0 f1 f2 a0 a1 a2 a3 g0 g1 g2 g3
  obtain ⟨a0, a1, a2, a3, _⟩ := cells4 (HK.out.at 0 rfl)
  go_wp2_with fail
  refine (C2.out _ (HT.out.oldn HK.out)).mono ?_
  rintro e w3 ⟨rfl, hb⟩
  replace HK := Lib.hid ((HK.out.after hb).more (.cells #[.int .u32 p0, .int .u32 p1, .int .u32 p2, .int .u32 p3] 24 (0, 0)))
  replace HV := Lib.hid (HV.out.kept (hb.alloc hb.size (.cells #[.int .u32 p0, .int .u32 p1, .int .u32 p2, .int .u32 p3] 24 (0, 0))))
  clear hb a0 a1 a2 a3
  obtain ⟨g0, g1, g2, g3, _⟩ := cells4 (HK.out.at 2 rfl)
  obtain ⟨f0, f1, f2, _⟩ := cells3 (HK.out.at 3 rfl)
  obtain ⟨a0, a1, a2, a3, _⟩ := cells4 (HK.out.at 4 rfl)
  go_wp2_with fail
  refine (C3.out _ _ HV.out (HT.out.oldn HK.out)).mono ?_
  rintro e w4 ⟨rfl, hb⟩
  have HK4 := Lib.hid (HK.out.after hb)
  replace HK := Lib.hid ((HK.out.after hb).more (.cells #[.int .i64 (k : Int), .slice A n c, .slice B m d] 38 (0, 0)))
  replace HV := Lib.hid (HV.out.kept (hb.alloc hb.size (.cells #[.int .i64 (k : Int), .slice A n c, .slice B m d] 38 (0, 0))))
  have HVK : Hid (SgV _ (.agg #[.int .i64 (k : Int), .slice A n c, .slice B m d]) (k : Int) S R) := Lib.hid (sgv_at HV.out)
  clear hb f0 f1 f2 a0 a1 a2 a3 g0 g1 g2 g3
  obtain ⟨g0, g1, g2, g3, _⟩ := cells4 (HK4.out.at 2 rfl)
  obtain ⟨f0, f1, f2, _⟩ := cells3 (HK4.out.at 3 rfl)
  obtain ⟨a0, a1, a2, a3, _⟩ := cells4 (HK4.out.at 4 rfl)
  obtain ⟨t0, t1, t2, t3, _⟩ := cells4 (HK.out.at 4 rfl)
  obtain ⟨u0, u1, u2, u3, _⟩ := cells4 (HK.out.at 2 rfl)
  go_wp2_with fail
  refine (C4.out _ _ HVK.out (HT.out.oldn HK.out)).mono ?_
  rintro e w5 ⟨rfl, hb⟩
  replace HK := Lib.hid (HK.out.after hb)
  replace HVK := Lib.hid (HVK.out.kept hb)
  clear HK4 HV hb f0 f1 f2 a0 a1 a2 a3 g0 g1 g2 g3 t0 t1 t2 t3 u0 u1 u2 u3
  go_wp2_with fail
  go_ret
  exact ⟨rfl, HK.out.be.plain⟩
set_option maxRecDepth 100000 in
set_option maxHeartbeats 4000000 in
theorem walk_same {x0 x1 x2 x3 y0 y1 y2 z0 z1 z2 z3 : Int} {h i k N : Nat} (o0 : Ok4 [x0, x1, x2, x3]) (o1 : Ok4 [z0, z1, z2, z3]) (hh : h = 1 ∨ h = 2) (hN : N = 2 * h) (hi : i < N) (hk : k < N) (b0 : 0 ≤ y0 ∧ y0 < 256) (b1 : 0 ≤ y1 ∧ y1 < 256) (b2 : 0 ≤ y2 ∧ y2 < 256) (eh : 1 + y0 % 2 = (h : Int)) (ei : y1 % (N : Int) = (i : Int)) (ek : y2 % (N : Int) = (k : Int)) (hbb : khd (kpub [x0, x1, x2, x3] h) [z0, z1, z2, z3] (k : Int) (sgn (ksd [x0, x1, x2, x3] i) [z0, z1, z2, z3]) (mway (kys [x0, x1, x2, x3] h) i) = true) (hs : kpk [x0, x1, x2, x3] i = kpk [x0, x1, x2, x3] k) (w : World) (ht : Tabs w) :
    Calls Tryd.prog 9 #[ag [x0, x1, x2, x3], .agg #[.int .u8 y0, .int .u8 y1, .int .u8 y2], ag [z0, z1, z2, z3]] w fun e w' => e = .returned (.bool true) ∧ Below w.heap.size w w' := by
  have CA := Lib.hid (fun w ht => awake6 w ht)
  have hp2 : 2 ^ h = N := by rcases hh with rfl | rfl <;> omega
  have h4 : h ≤ 4 := by omega
  have c1 := fun w ht => sign6_yes _ _ h i w o0 o1 h4 (by omega) ht
  have c2 := fun w ht => public6_yes _ h w o0 h4 ht
  have op := kpub_ok o0 h
  have hkh := khd_sig (seed := [x0, x1, x2, x3]) (msg := [z0, z1, z2, z3]) (h := h) (i := i) h4 (by omega)
  have c3 := fun (v : Value) (w : World) hv ht => check6 (idx := (i : Int)) (one := sgn (ksd [x0, x1, x2, x3] i) [z0, z1, z2, z3]) (path := mway (kys [x0, x1, x2, x3] h) i) (v := v) w op o1 hv ht
  have c4 := fun (v : Value) (w : World) hv ht => check6 (idx := (k : Int)) (one := sgn (ksd [x0, x1, x2, x3] i) [z0, z1, z2, z3]) (path := mway (kys [x0, x1, x2, x3] h) i) (v := v) w op o1 hv ht
  rw [hkh] at c3
  have c5 := fun w ht => sign6_yes _ _ h k w o0 o1 h4 (by omega) ht
  have c6 := fun w => keys_ref _ h w o0 h4
  have hcl := khd_clb hbb
  have hcl2 := clb_way (l := kys [x0, x1, x2, x3] h) (i := k) (kys_length _ _) (by omega)
  rw [kys_getD _ (by omega)] at hcl2
  rw [Int.toNat_natCast, rch_sgn] at hcl
  have hks := ksh_of _ _ _ _ _ (by rw [way_full h _ i (kys_length _ _) (by omega), way_full h _ k (kys_length _ _) (by omega)]) (hcl.trans hcl2.symm)
  have hli := kys_get [x0, x1, x2, x3] (h := h) (i := i) (by omega)
  have hlk := kys_get [x0, x1, x2, x3] (h := h) (i := k) (by omega)
  have hmi := way_full h (kys [x0, x1, x2, x3] h) i (kys_length _ _) (by omega)
  have hmk := way_full h (kys [x0, x1, x2, x3] h) k (kys_length _ _) (by omega)
  have oki := kpk_ok o0 i
  have okk := kpk_ok o0 k
  rw [show pubk (ksd [x0, x1, x2, x3] i) = kpk [x0, x1, x2, x3] i from rfl] at hks
  rw [hbb] at c4
  rw [hs] at hli
  obtain ⟨p0, p1, p2, p3, ep, _⟩ := ok4 op
  obtain ⟨S, hS⟩ : ∃ S, sgn (ksd [x0, x1, x2, x3] i) [z0, z1, z2, z3] = S := ⟨_, rfl⟩
  obtain ⟨R, hR⟩ : ∃ R, mway (kys [x0, x1, x2, x3] h) i = R := ⟨_, rfl⟩
  rw [hS, hR] at c1 c3 c4
  rw [ep] at c2 c3 c4
  rw [ag4, ag4] at c1 c2 c3 c4
  rw [ag4, ag4]
  have C1 := Lib.hid c1
  have C2 := Lib.hid c2
  have C3 := Lib.hid c3
  have C4 := Lib.hid c4
  have HT := Lib.hid ht
  have HK := Lib.hid ((((Kx.nil none w).more (.cells #[.int .u32 x0, .int .u32 x1, .int .u32 x2, .int .u32 x3] 24 (0, 0))).add (w.heap.size + 1) (by simp) (.cells #[.int .u8 y0, .int .u8 y1, .int .u8 y2] 54 (0, 0))).add (w.heap.size + 1 + 1) (by simp) (.cells #[.int .u32 z0, .int .u32 z1, .int .u32 z2, .int .u32 z3] 24 (0, 0)))
  obtain ⟨b00, b01⟩ := b0
  obtain ⟨b10, b11⟩ := b1
  obtain ⟨b20, b21⟩ := b2
  have e2 : 2 * (h : Int) = (N : Int) := by omega
  have e3 : (0 : Int) < (N : Int) := by omega
  have e4 : ¬ (N : Int) = 0 := by omega
  have e5 : (N : Int) ≤ 4 := by omega
  have e6 : (h : Int) ≤ 2 := by omega
  have e7 : (1 : Int) ≤ (h : Int) := by omega
  have e8 : (0 : Int) ≤ (i : Int) := by omega
  have e9 : (0 : Int) ≤ (k : Int) := by omega
  obtain ⟨S2, hS2⟩ : ∃ S2, sgn (ksd [x0, x1, x2, x3] k) [z0, z1, z2, z3] = S2 := ⟨_, rfl⟩
  obtain ⟨R2, hR2⟩ : ∃ R2, mway (kys [x0, x1, x2, x3] h) k = R2 := ⟨_, rfl⟩
  obtain ⟨l, hl⟩ : ∃ l, kys [x0, x1, x2, x3] h = l := ⟨_, rfl⟩
  rw [hS2, hR2] at c5
  rw [hR] at hks hmi
  rw [hR2] at hks hmk
  rw [hl] at c6 hli hlk
  rw [hp2] at c6
  obtain ⟨k0, k1, k2, k3, hek, _⟩ := ok4 okk
  rw [hek] at hli hlk okk
  rw [ag4, ag4] at c5
  rw [ag4] at c6
  have C5 := Lib.hid c5
  have C6 : Hid (∀ w : World, Calls Tryd.prog 23 #[.agg #[.int .u32 x0, .int .u32 x1, .int .u32 x2, .int .u32 x3], .int .i64 (h : Int)] w fun e w' => ∃ g cap, e = .returned (.slice (some ⟨g, 0, none⟩) N cap) ∧ N ≤ cap ∧ cap ≤ maxLen ∧ DRow w' g 0 l ∧ w.heap.size ≤ g ∧ Below w.heap.size w w') := Lib.hid c6
  have HLI := Lib.hid hli
  have HLK := Lib.hid hlk
  have HMI := Lib.hid hmi
  have HMK := Lib.hid hmk
  have OI := Lib.hid oki
  have OK := Lib.hid okk
  have q4 := eq4s
  have s0 := same_self
  have m1 : (i : Int) < (N : Int) := by omega
  have m2 : (k : Int) < (N : Int) := by omega
  have HK20 : Hid (k < 1048576) := Lib.hid (by omega)
  have HM64 : Hid (h ≤ 64) := Lib.hid (by omega)
  clear ht c1 c2 c3 c4 hkh hS hR ep op hp2 h4 hh hN hi hk hbb c5 c6 hcl hcl2 hks hli hlk hmi hmk oki okk hS2 hR2 hl hek hs
  go_enter Tryd.func9, Tryd.ntmps9
  go_wp2_with fail
  refine (CA.out _ (HT.out.oldn HK.out)).mono ?_
  rintro e w1 ⟨rfl, hb⟩
  replace HK := Lib.hid (HK.out.after hb)
  clear hb
  obtain ⟨f0, f1, f2⟩ := cellsB (HK.out.at 1 rfl)
  obtain ⟨a0, a1, a2, a3, _⟩ := cells4 (HK.out.at 0 rfl)
  obtain ⟨g0, g1, g2, g3, _⟩ := cells4 (HK.out.at 2 rfl)
  go_wp2_with fail
  refine (C1.out _ (HT.out.oldn HK.out)).mono ?_
  rintro e w2 ⟨v1, rfl, hx, hb⟩
  have hv1 := hx.v
  obtain ⟨A, n, c, B, m, d, rfl, _, _⟩ := hx
  replace HK := Lib.hid ((HK.out.after hb).more (.cells #[.int .i64 (i : Int), .slice A n c, .slice B m d] 38 (0, 0)))
  have HV := Lib.hid (hv1.kept ((Below.refl _ w2).alloc (Nat.le_refl _) (.cells #[.int .i64 (i : Int), .slice A n c, .slice B m d] 38 (0, 0))))
  clear hb hv1 f0 f1 f2 a0 a1 a2 a3 g0 g1 g2 g3
  obtain ⟨a0, a1, a2, a3, _⟩ := cells4 (HK.out.at 0 rfl)
  go_wp2_with fail
  refine (C2.out _ (HT.out.oldn HK.out)).mono ?_
  rintro e w3 ⟨rfl, hb⟩
  replace HK := Lib.hid ((HK.out.after hb).more (.cells #[.int .u32 p0, .int .u32 p1, .int .u32 p2, .int .u32 p3] 24 (0, 0)))
  replace HV := Lib.hid (HV.out.kept (hb.alloc hb.size (.cells #[.int .u32 p0, .int .u32 p1, .int .u32 p2, .int .u32 p3] 24 (0, 0))))
  clear hb a0 a1 a2 a3
  obtain ⟨g0, g1, g2, g3, _⟩ := cells4 (HK.out.at 2 rfl)
  obtain ⟨f0, f1, f2, _⟩ := cells3 (HK.out.at 3 rfl)
  obtain ⟨a0, a1, a2, a3, _⟩ := cells4 (HK.out.at 4 rfl)
  go_wp2_with fail
  refine (C3.out _ _ HV.out (HT.out.oldn HK.out)).mono ?_
  rintro e w4 ⟨rfl, hb⟩
  have HK4 := Lib.hid (HK.out.after hb)
  replace HK := Lib.hid ((HK.out.after hb).more (.cells #[.int .i64 (k : Int), .slice A n c, .slice B m d] 38 (0, 0)))
  replace HV := Lib.hid (HV.out.kept (hb.alloc hb.size (.cells #[.int .i64 (k : Int), .slice A n c, .slice B m d] 38 (0, 0))))
  have HVK : Hid (SgV _ (.agg #[.int .i64 (k : Int), .slice A n c, .slice B m d]) (k : Int) S R) := Lib.hid (sgv_at HV.out)
  clear hb f0 f1 f2 a0 a1 a2 a3 g0 g1 g2 g3
  obtain ⟨g0, g1, g2, g3, _⟩ := cells4 (HK4.out.at 2 rfl)
  obtain ⟨f0, f1, f2, _⟩ := cells3 (HK4.out.at 3 rfl)
  obtain ⟨a0, a1, a2, a3, _⟩ := cells4 (HK4.out.at 4 rfl)
  obtain ⟨t0, t1, t2, t3, _⟩ := cells4 (HK.out.at 4 rfl)
  obtain ⟨u0, u1, u2, u3, _⟩ := cells4 (HK.out.at 2 rfl)
  go_wp2_with fail
  refine (C4.out _ _ HVK.out (HT.out.oldn HK.out)).mono ?_
  rintro e w5 ⟨rfl, hb⟩
  replace HK := Lib.hid (HK.out.after hb)
  replace HVK := Lib.hid (HVK.out.kept hb)
  clear HK4 HV hb f0 f1 f2 a0 a1 a2 a3 g0 g1 g2 g3 t0 t1 t2 t3 u0 u1 u2 u3
  obtain ⟨a0, a1, a2, a3, _⟩ := cells4 (HK.out.at 0 rfl)
  obtain ⟨g0, g1, g2, g3, _⟩ := cells4 (HK.out.at 2 rfl)
  go_wp2_with fail
  refine (C5.out _ (HT.out.oldn HK.out)).mono ?_
  rintro e w6 ⟨v5, rfl, hx, hb⟩
  have hv5 := hx.v
  obtain ⟨A5, n5, c5, B5, m5, d5, rfl, _, _⟩ := hx
  replace HK := Lib.hid ((HK.out.after hb).more (.cells #[.int .i64 (k : Int), .slice A5 n5 c5, .slice B5 m5 d5] 38 (0, 0)))
  replace HVK := Lib.hid (HVK.out.kept (hb.alloc hb.size (.cells #[.int .i64 (k : Int), .slice A5 n5 c5, .slice B5 m5 d5] 38 (0, 0))))
  have HV5 := Lib.hid (hv5.kept ((Below.refl _ w6).alloc (Nat.le_refl _) (.cells #[.int .i64 (k : Int), .slice A5 n5 c5, .slice B5 m5 d5] 38 (0, 0))))
  clear hb hv5 a0 a1 a2 a3 g0 g1 g2 g3
  obtain ⟨a0, a1, a2, a3, _⟩ := cells4 (HK.out.at 0 rfl)
  go_wp2_with fail
  refine (C6.out _).mono ?_
  rintro e w7 ⟨g, cap, rfl, hc1, hc2, hd, _, hb⟩
  replace HK := Lib.hid (HK.out.after hb)
  replace HVK := Lib.hid (HVK.out.kept hb)
  replace HV5 := Lib.hid (HV5.out.kept hb)
  clear hb a0 a1 a2 a3
  obtain ⟨l0, l1, l2, l3⟩ := hd.four HLI.out
  obtain ⟨j0, j1, j2, j3⟩ := hd.four HLK.out
  obtain ⟨f0, f1, f2, _⟩ := cells3 (HK.out.at 5 rfl)
  obtain ⟨u0, u1, u2, _⟩ := cells3 (HK.out.at 6 rfl)
  simp only [Nat.zero_add] at l0 l1 l2 l3 j0 j1 j2 j3
  clear hd hc1 hc2
  go_wp2_with fail
  go_quiet (fail)
  go_wp2_with fail
  replace HK := Lib.hid (HK.out.drewN nq)
  go_ret
  exact ⟨rfl, HK.out.be.plain⟩
theorem all2k {W : World} {g i k : Nat} {l : Dl} {i0 i1 i2 i3 k0 k1 k2 k3 : Int} {p q : Nat} {bs : List (Nat × Obj)} {w : World} {t1 t2 : TypeId} {v0 v1 v2 u0 u1 u2 : Value} (h : DRow W g 0 l) (hi : l[i]? = some [i0, i1, i2, i3]) (hk : l[k]? = some [k0, k1, k2, k3]) (hx : Kx none w W bs) (h5 : bs[5]? = some (p, .cells #[v0, v1, v2] t1 (0, 0))) (h6 : bs[6]? = some (q, .cells #[u0, u1, u2] t2 (0, 0))) :
    W.cell? ⟨g, i * 4, none⟩ = some (.int .u32 i0) ∧ W.cell? ⟨g, i * 4 + 1, none⟩ = some (.int .u32 i1) ∧ W.cell? ⟨g, i * 4 + 2, none⟩ = some (.int .u32 i2) ∧ W.cell? ⟨g, i * 4 + 3, none⟩ = some (.int .u32 i3) ∧ W.cell? ⟨g, k * 4, none⟩ = some (.int .u32 k0) ∧ W.cell? ⟨g, k * 4 + 1, none⟩ = some (.int .u32 k1) ∧ W.cell? ⟨g, k * 4 + 2, none⟩ = some (.int .u32 k2) ∧ W.cell? ⟨g, k * 4 + 3, none⟩ = some (.int .u32 k3) ∧ W.cell? ⟨p, 2, none⟩ = some v2 ∧ W.cell? ⟨q, 2, none⟩ = some u2 := by
  obtain ⟨a0, a1, a2, a3⟩ := h.four hi
  obtain ⟨b0, b1, b2, b3⟩ := h.four hk
  simp only [Nat.zero_add] at a0 a1 a2 a3 b0 b1 b2 b3
  obtain ⟨_, _, c2, _⟩ := cells3 (hx.at 5 h5)
  obtain ⟨_, _, d2, _⟩ := cells3 (hx.at 6 h6)
  exact ⟨a0, a1, a2, a3, b0, b1, b2, b3, c2, d2⟩
set_option maxRecDepth 100000 in
set_option maxHeartbeats 4000000 in
theorem walk_unlike {x0 x1 x2 x3 y0 y1 y2 z0 z1 z2 z3 : Int} {h i k N : Nat} (o0 : Ok4 [x0, x1, x2, x3]) (o1 : Ok4 [z0, z1, z2, z3]) (hh : h = 1 ∨ h = 2) (hN : N = 2 * h) (hi : i < N) (hk : k < N) (b0 : 0 ≤ y0 ∧ y0 < 256) (b1 : 0 ≤ y1 ∧ y1 < 256) (b2 : 0 ≤ y2 ∧ y2 < 256) (eh : 1 + y0 % 2 = (h : Int)) (ei : y1 % (N : Int) = (i : Int)) (ek : y2 % (N : Int) = (k : Int)) (hbb : khd (kpub [x0, x1, x2, x3] h) [z0, z1, z2, z3] (k : Int) (sgn (ksd [x0, x1, x2, x3] i) [z0, z1, z2, z3]) (mway (kys [x0, x1, x2, x3] h) i) = true) (hs : ¬ kpk [x0, x1, x2, x3] i = kpk [x0, x1, x2, x3] k) (w : World) (ht : Tabs w) :
    Calls Tryd.prog 9 #[ag [x0, x1, x2, x3], .agg #[.int .u8 y0, .int .u8 y1, .int .u8 y2], ag [z0, z1, z2, z3]] w fun e w' => e = .returned (.bool true) ∧ Below w.heap.size w w' := by
  have CA := Lib.hid (fun w ht => awake6 w ht)
  have hp2 : 2 ^ h = N := by rcases hh with rfl | rfl <;> omega
  have h4 : h ≤ 4 := by omega
  have c1 := fun w ht => sign6_yes _ _ h i w o0 o1 h4 (by omega) ht
  have c2 := fun w ht => public6_yes _ h w o0 h4 ht
  have op := kpub_ok o0 h
  have hkh := khd_sig (seed := [x0, x1, x2, x3]) (msg := [z0, z1, z2, z3]) (h := h) (i := i) h4 (by omega)
  have c3 := fun (v : Value) (w : World) hv ht => check6 (idx := (i : Int)) (one := sgn (ksd [x0, x1, x2, x3] i) [z0, z1, z2, z3]) (path := mway (kys [x0, x1, x2, x3] h) i) (v := v) w op o1 hv ht
  have c4 := fun (v : Value) (w : World) hv ht => check6 (idx := (k : Int)) (one := sgn (ksd [x0, x1, x2, x3] i) [z0, z1, z2, z3]) (path := mway (kys [x0, x1, x2, x3] h) i) (v := v) w op o1 hv ht
  rw [hkh] at c3
  have c5 := fun w ht => sign6_yes _ _ h k w o0 o1 h4 (by omega) ht
  have c6 := fun w => keys_ref _ h w o0 h4
  have hcl := khd_clb hbb
  have hcl2 := clb_way (l := kys [x0, x1, x2, x3] h) (i := k) (kys_length _ _) (by omega)
  rw [kys_getD _ (by omega)] at hcl2
  rw [Int.toNat_natCast, rch_sgn] at hcl
  have hks := ksh_of _ _ _ _ _ (by rw [way_full h _ i (kys_length _ _) (by omega), way_full h _ k (kys_length _ _) (by omega)]) (hcl.trans hcl2.symm)
  have hli := kys_get [x0, x1, x2, x3] (h := h) (i := i) (by omega)
  have hlk := kys_get [x0, x1, x2, x3] (h := h) (i := k) (by omega)
  have hmi := way_full h (kys [x0, x1, x2, x3] h) i (kys_length _ _) (by omega)
  have hmk := way_full h (kys [x0, x1, x2, x3] h) k (kys_length _ _) (by omega)
  have oki := kpk_ok o0 i
  have okk := kpk_ok o0 k
  rw [show pubk (ksd [x0, x1, x2, x3] i) = kpk [x0, x1, x2, x3] i from rfl] at hks
  have hkk := hks.resolve_left hs
  rw [hbb] at c4
  obtain ⟨p0, p1, p2, p3, ep, _⟩ := ok4 op
  obtain ⟨S, hS⟩ : ∃ S, sgn (ksd [x0, x1, x2, x3] i) [z0, z1, z2, z3] = S := ⟨_, rfl⟩
  obtain ⟨R, hR⟩ : ∃ R, mway (kys [x0, x1, x2, x3] h) i = R := ⟨_, rfl⟩
  rw [hS, hR] at c1 c3 c4
  rw [ep] at c2 c3 c4
  rw [ag4, ag4] at c1 c2 c3 c4
  rw [ag4, ag4]
  have C1 := Lib.hid c1
  have C2 := Lib.hid c2
  have C3 := Lib.hid c3
  have C4 := Lib.hid c4
  have HT := Lib.hid ht
  have HK := Lib.hid ((((Kx.nil none w).more (.cells #[.int .u32 x0, .int .u32 x1, .int .u32 x2, .int .u32 x3] 24 (0, 0))).add (w.heap.size + 1) (by simp) (.cells #[.int .u8 y0, .int .u8 y1, .int .u8 y2] 54 (0, 0))).add (w.heap.size + 1 + 1) (by simp) (.cells #[.int .u32 z0, .int .u32 z1, .int .u32 z2, .int .u32 z3] 24 (0, 0)))
  obtain ⟨b00, b01⟩ := b0
  obtain ⟨b10, b11⟩ := b1
  obtain ⟨b20, b21⟩ := b2
  have e2 : 2 * (h : Int) = (N : Int) := by omega
  have e3 : (0 : Int) < (N : Int) := by omega
  have e4 : ¬ (N : Int) = 0 := by omega
  have e5 : (N : Int) ≤ 4 := by omega
  have e6 : (h : Int) ≤ 2 := by omega
  have e7 : (1 : Int) ≤ (h : Int) := by omega
  have e8 : (0 : Int) ≤ (i : Int) := by omega
  have e9 : (0 : Int) ≤ (k : Int) := by omega
  obtain ⟨S2, hS2⟩ : ∃ S2, sgn (ksd [x0, x1, x2, x3] k) [z0, z1, z2, z3] = S2 := ⟨_, rfl⟩
  obtain ⟨R2, hR2⟩ : ∃ R2, mway (kys [x0, x1, x2, x3] h) k = R2 := ⟨_, rfl⟩
  obtain ⟨l, hl⟩ : ∃ l, kys [x0, x1, x2, x3] h = l := ⟨_, rfl⟩
  rw [hS2, hR2] at c5
  rw [hR] at hks hmi hkk
  rw [hR2] at hks hmk hkk
  rw [hl] at c6 hli hlk
  rw [hp2] at c6
  obtain ⟨i0, i1, i2, i3, hei, _⟩ := ok4 oki
  obtain ⟨k0, k1, k2, k3, hek, _⟩ := ok4 okk
  rw [hei] at hli hks oki hkk hs
  rw [hek] at hlk hks okk hkk hs
  rw [ag4, ag4] at c5
  rw [ag4] at c6
  have C5 := Lib.hid c5
  have C6 : Hid (∀ w : World, Calls Tryd.prog 23 #[.agg #[.int .u32 x0, .int .u32 x1, .int .u32 x2, .int .u32 x3], .int .i64 (h : Int)] w fun e w' => ∃ g cap, e = .returned (.slice (some ⟨g, 0, none⟩) N cap) ∧ N ≤ cap ∧ cap ≤ maxLen ∧ DRow w' g 0 l ∧ w.heap.size ≤ g ∧ Below w.heap.size w w') := Lib.hid c6
  have HLI := Lib.hid hli
  have HLK := Lib.hid hlk
  have HMI := Lib.hid hmi
  have HMK := Lib.hid hmk
  have OI := Lib.hid oki
  have OK := Lib.hid okk
  have q4 := eq4s
  have s0 := same_self
  have m1 : (i : Int) < (N : Int) := by omega
  have m2 : (k : Int) < (N : Int) := by omega
  have HK20 : Hid (k < 1048576) := Lib.hid (by omega)
  have HM64 : Hid (h ≤ 64) := Lib.hid (by omega)
  have hsf : same [k0, k1, k2, k3] [i0, i1, i2, i3] = false := same_no (fun e => hs e.symm)
  have HKK := Lib.hid hkk
  clear ht c1 c2 c3 c4 hkh hS hR ep op hp2 h4 hh hN hi hk hbb c5 c6 hcl hcl2 hks hli hlk hmi hmk oki okk hS2 hR2 hl hei hek hs hkk
  go_enter Tryd.func9, Tryd.ntmps9
  go_wp2_with fail
  refine (CA.out _ (HT.out.oldn HK.out)).mono ?_
  rintro e w1 ⟨rfl, hb⟩
  replace HK := Lib.hid (HK.out.after hb)
  clear hb
  obtain ⟨f0, f1, f2⟩ := cellsB (HK.out.at 1 rfl)
  obtain ⟨a0, a1, a2, a3, _⟩ := cells4 (HK.out.at 0 rfl)
  obtain ⟨g0, g1, g2, g3, _⟩ := cells4 (HK.out.at 2 rfl)
  go_wp2_with fail
  refine (C1.out _ (HT.out.oldn HK.out)).mono ?_
  rintro e w2 ⟨v1, rfl, hx, hb⟩
  have hv1 := hx.v
  obtain ⟨A, n, c, B, m, d, rfl, _, _⟩ := hx
  replace HK := Lib.hid ((HK.out.after hb).more (.cells #[.int .i64 (i : Int), .slice A n c, .slice B m d] 38 (0, 0)))
  have HV := Lib.hid (hv1.kept ((Below.refl _ w2).alloc (Nat.le_refl _) (.cells #[.int .i64 (i : Int), .slice A n c, .slice B m d] 38 (0, 0))))
  clear hb hv1 f0 f1 f2 a0 a1 a2 a3 g0 g1 g2 g3
  obtain ⟨a0, a1, a2, a3, _⟩ := cells4 (HK.out.at 0 rfl)
  go_wp2_with fail
  refine (C2.out _ (HT.out.oldn HK.out)).mono ?_
  rintro e w3 ⟨rfl, hb⟩
  replace HK := Lib.hid ((HK.out.after hb).more (.cells #[.int .u32 p0, .int .u32 p1, .int .u32 p2, .int .u32 p3] 24 (0, 0)))
  replace HV := Lib.hid (HV.out.kept (hb.alloc hb.size (.cells #[.int .u32 p0, .int .u32 p1, .int .u32 p2, .int .u32 p3] 24 (0, 0))))
  clear hb a0 a1 a2 a3
  obtain ⟨g0, g1, g2, g3, _⟩ := cells4 (HK.out.at 2 rfl)
  obtain ⟨f0, f1, f2, _⟩ := cells3 (HK.out.at 3 rfl)
  obtain ⟨a0, a1, a2, a3, _⟩ := cells4 (HK.out.at 4 rfl)
  go_wp2_with fail
  refine (C3.out _ _ HV.out (HT.out.oldn HK.out)).mono ?_
  rintro e w4 ⟨rfl, hb⟩
  have HK4 := Lib.hid (HK.out.after hb)
  replace HK := Lib.hid ((HK.out.after hb).more (.cells #[.int .i64 (k : Int), .slice A n c, .slice B m d] 38 (0, 0)))
  replace HV := Lib.hid (HV.out.kept (hb.alloc hb.size (.cells #[.int .i64 (k : Int), .slice A n c, .slice B m d] 38 (0, 0))))
  have HVK : Hid (SgV _ (.agg #[.int .i64 (k : Int), .slice A n c, .slice B m d]) (k : Int) S R) := Lib.hid (sgv_at HV.out)
  clear hb f0 f1 f2 a0 a1 a2 a3 g0 g1 g2 g3
  obtain ⟨g0, g1, g2, g3, _⟩ := cells4 (HK4.out.at 2 rfl)
  obtain ⟨f0, f1, f2, _⟩ := cells3 (HK4.out.at 3 rfl)
  obtain ⟨a0, a1, a2, a3, _⟩ := cells4 (HK4.out.at 4 rfl)
  obtain ⟨t0, t1, t2, t3, _⟩ := cells4 (HK.out.at 4 rfl)
  obtain ⟨u0, u1, u2, u3, _⟩ := cells4 (HK.out.at 2 rfl)
  go_wp2_with fail
  refine (C4.out _ _ HVK.out (HT.out.oldn HK.out)).mono ?_
  rintro e w5 ⟨rfl, hb⟩
  replace HK := Lib.hid (HK.out.after hb)
  replace HVK := Lib.hid (HVK.out.kept hb)
  clear HK4 HV hb f0 f1 f2 a0 a1 a2 a3 g0 g1 g2 g3 t0 t1 t2 t3 u0 u1 u2 u3
  obtain ⟨a0, a1, a2, a3, _⟩ := cells4 (HK.out.at 0 rfl)
  obtain ⟨g0, g1, g2, g3, _⟩ := cells4 (HK.out.at 2 rfl)
  go_wp2_with fail
  refine (C5.out _ (HT.out.oldn HK.out)).mono ?_
  rintro e w6 ⟨v5, rfl, hx, hb⟩
  have hv5 := hx.v
  obtain ⟨A5, n5, c5, B5, m5, d5, rfl, _, _⟩ := hx
  replace HK := Lib.hid ((HK.out.after hb).more (.cells #[.int .i64 (k : Int), .slice A5 n5 c5, .slice B5 m5 d5] 38 (0, 0)))
  replace HVK := Lib.hid (HVK.out.kept (hb.alloc hb.size (.cells #[.int .i64 (k : Int), .slice A5 n5 c5, .slice B5 m5 d5] 38 (0, 0))))
  have HV5 := Lib.hid (hv5.kept ((Below.refl _ w6).alloc (Nat.le_refl _) (.cells #[.int .i64 (k : Int), .slice A5 n5 c5, .slice B5 m5 d5] 38 (0, 0))))
  clear hb hv5 a0 a1 a2 a3 g0 g1 g2 g3
  obtain ⟨a0, a1, a2, a3, _⟩ := cells4 (HK.out.at 0 rfl)
  go_wp2_with fail
  refine (C6.out _).mono ?_
  rintro e w7 ⟨g, cap, rfl, hc1, hc2, hd, _, hb⟩
  replace HK := Lib.hid (HK.out.after hb)
  replace HVK := Lib.hid (HVK.out.kept hb)
  replace HV5 := Lib.hid (HV5.out.kept hb)
  clear hb a0 a1 a2 a3
  obtain ⟨l0, l1, l2, l3⟩ := hd.four HLI.out
  obtain ⟨j0, j1, j2, j3⟩ := hd.four HLK.out
  obtain ⟨f0, f1, f2, _⟩ := cells3 (HK.out.at 5 rfl)
  obtain ⟨u0, u1, u2, _⟩ := cells3 (HK.out.at 6 rfl)
  have HD := Lib.hid hd
  obtain ⟨r1, r2, r3, r4⟩ := sgv_parts HVK.out
  obtain ⟨r5, r6, r7, r8⟩ := sgv_parts HV5.out
  have hme : m = h := by rw [← r1]; exact HMI.out
  have hme5 : m5 = h := by rw [← r5]; exact HMK.out
  subst hme
  subst hme5
  have C7 := Lib.hid (fun (W : World) q1 q2 => clash6r (i := k) (p := R) (q := R2) (A := B) (B := B5) (cp := d) (cq := d5) W HK20.out OI.out OK.out r1 r5 HM64.out r2 r6 q1 q2)
  rw [HKK.out, ag4, ag4] at C7
  have DP := Lib.hid r4
  have DP5 := Lib.hid r8
  clear hd hc1 hc2 r1 r2 r3 r4 r5 r6 r7 r8 l0 l1 l2 l3 j0 j1 j2 j3 f0 f1 f2 u0 u1 u2
  go_wp2_with fail
  replace HK := Lib.hid HK.out.drew
  replace HD := Lib.hid HD.out.drew
  replace DP := Lib.hid DP.out.drew
  replace DP5 := Lib.hid DP5.out.drew
  go_region_held3 (fun W => W.cell? ⟨g, i * 4, none⟩ = some (.int .u32 i0) ∧ W.cell? ⟨g, i * 4 + 1, none⟩ = some (.int .u32 i1) ∧ W.cell? ⟨g, i * 4 + 2, none⟩ = some (.int .u32 i2) ∧ W.cell? ⟨g, i * 4 + 3, none⟩ = some (.int .u32 i3) ∧ W.cell? ⟨g, k * 4, none⟩ = some (.int .u32 k0) ∧ W.cell? ⟨g, k * 4 + 1, none⟩ = some (.int .u32 k1) ∧ W.cell? ⟨g, k * 4 + 2, none⟩ = some (.int .u32 k2) ∧ W.cell? ⟨g, k * 4 + 3, none⟩ = some (.int .u32 k3) ∧ W.cell? ⟨w4.heap.size, 2, none⟩ = some (.slice B m5 d) ∧ W.cell? ⟨w6.heap.size, 2, none⟩ = some (.slice B5 m5 d5))
    (exact all2k HD.out HLI.out HLK.out HK.out rfl rfl)
    (first
      | (go_at_call 22; with_reducible refine (C7.out _ DP.out DP5.out).mono ?_; rintro e w' ⟨rfl, hb⟩; replace HK := Lib.hid (HK.out.after hb); replace HD := Lib.hid (HD.out.kept hb); replace DP := Lib.hid (DP.out.kept hb); replace DP5 := Lib.hid (DP5.out.kept hb); clear hb))
  all_goals
    go_wp2_with fail
    go_ret
    exact ⟨rfl, HK.out.be.plain⟩
theorem walk {x0 x1 x2 x3 y0 y1 y2 z0 z1 z2 z3 : Int} (o0 : Ok4 [x0, x1, x2, x3]) (o1 : Ok4 [z0, z1, z2, z3]) (b0 : (Lit.int .u8 y0).wf = true) (b1 : (Lit.int .u8 y1).wf = true) (b2 : (Lit.int .u8 y2).wf = true) (w : World) (ht : Tabs w) :
    Calls Tryd.prog 9 #[ag [x0, x1, x2, x3], .agg #[.int .u8 y0, .int .u8 y1, .int .u8 y2], ag [z0, z1, z2, z3]] w fun e w' => e = .returned (.bool true) ∧ Below w.heap.size w w' := by
  have q0 := bounds_u8 b0
  have q1 := bounds_u8 b1
  have q2 := bounds_u8 b2
  obtain ⟨h, eh⟩ : ∃ h : Nat, 1 + y0 % 2 = (h : Int) := ⟨(1 + y0 % 2).toNat, by omega⟩
  obtain ⟨N, hN⟩ : ∃ N, N = 2 * h := ⟨_, rfl⟩
  have hNp : (0 : Int) < (N : Int) := by omega
  obtain ⟨i, ei⟩ : ∃ i : Nat, y1 % (N : Int) = (i : Int) := ⟨(y1 % (N : Int)).toNat, by have := Int.emod_nonneg y1 (show (N : Int) ≠ 0 by omega); omega⟩
  obtain ⟨k, ek⟩ : ∃ k : Nat, y2 % (N : Int) = (k : Int) := ⟨(y2 % (N : Int)).toNat, by have := Int.emod_nonneg y2 (show (N : Int) ≠ 0 by omega); omega⟩
  have hi : i < N := by have := Int.emod_lt_of_pos y1 hNp; omega
  have hk : k < N := by have := Int.emod_lt_of_pos y2 hNp; omega
  cases hbb : khd (kpub [x0, x1, x2, x3] h) [z0, z1, z2, z3] (k : Int) (sgn (ksd [x0, x1, x2, x3] i) [z0, z1, z2, z3]) (mway (kys [x0, x1, x2, x3] h) i) with
  | false => exact walk_no o0 o1 (by omega) hN hi hk (by omega) (by omega) (by omega) eh ei ek hbb w ht
  | true =>
    by_cases hs : kpk [x0, x1, x2, x3] i = kpk [x0, x1, x2, x3] k
    · exact walk_same o0 o1 (by omega) hN hi hk (by omega) (by omega) (by omega) eh ei ek hbb hs w ht
    · exact walk_unlike o0 o1 (by omega) hN hi hk (by omega) (by omega) (by omega) eh ei ek hbb hs w ht

set_option maxRecDepth 100000 in
theorem contract (H : Type) (enc : TypeId × Value → H) (W : World) (base : Nat) (args : Array Value) (ds gs : List (DataW H)) (before : List MemPlace)
    (hval : ∀ (j : Nat) t v, Tryd.f9.params[j]? = some t → args[j]? = some v → Value.okWide Tryd.prog W .any base t v)
    (hW : DataW.Whole enc Tryd.prog Tryd.f9.params.toList Rows.keysPlacesSpec.vars false W args.toList ds gs before) (hL : laidMetH Tryd.prog Rows.keysPlacesRow.laid W) :
    Calls Tryd.prog 9 args W fun e W' => ∃ v, e = .returned v ∧ Rows.keysPlacesSpec.post enc Tryd.prog Tryd.f9 false true false false W args v W' := by
  have hW' := hW
  obtain ⟨p, q, hA0, hV, rfl, hfz, hnd⟩ := hW
  have hA : DataW.TrodAll enc Tryd.prog W 0 (fun _ => true) true Tryd.f9.params.toList args.toList ds p := hA0
  rw [Tryd.params9] at hA hval
  obtain ⟨v0, vs0, d0, ds0, p0, q0, hargs, rfl, rfl, h0, r0⟩ := trodAll_cons hA
  obtain ⟨v1, vs1, d1, ds1, p1, q1, rfl, rfl, rfl, h1, r1⟩ := trodAll_cons r0
  obtain ⟨v2, vs2, d2, ds2, p2, q2, rfl, rfl, rfl, h2, r2⟩ := trodAll_cons r1
  obtain ⟨rfl, rfl, rfl⟩ := trodAll_nil r2
  obtain rfl : args = #[v0, v1, v2] := by cases args; simp_all
  obtain ⟨rfl, rfl⟩ := trodVars_none hV
  have lt0 : ∀ x ∈ p0, x.block < W.heap.size := by obtain ⟨m, hm⟩ := h0; exact DataW.trod_lt m _ _ _ hm
  obtain ⟨x00, x01, x02, x03, rfl, o0⟩ := open_dig (hval 0 24 v0 rfl rfl) h0
  have lt1 : ∀ x ∈ p1, x.block < W.heap.size := by obtain ⟨m, hm⟩ := h1; exact DataW.trod_lt m _ _ _ hm
  obtain ⟨y0, y1, y2, rfl, wy0, wy1, wy2⟩ := open_b3 (hval 1 54 v1 rfl rfl) h1
  have lt2 : ∀ x ∈ p2, x.block < W.heap.size := by obtain ⟨m, hm⟩ := h2; exact DataW.trod_lt m _ _ _ hm
  obtain ⟨x20, x21, x22, x23, rfl, o2⟩ := open_dig (hval 2 24 v2 rfl rfl) h2
  clear hA0
  refine (walk o0 o2 wy0 wy1 wy2 W  (tabs_of hL)).mono fun e W' ⟨he, bel⟩ => ?_
  subst he
  exact ⟨_, rfl, _, _, _, [], _, [], hW', trodAll_mk1 (shut_bool Tryd.underlying4 _), (trodAll_cons_mk (Below.trod laidOut (by kernel_rfl) (of_decide_eq_true (by kernel_rfl)) h0 bel lt0) (trodAll_cons_mk (Below.trod laidOut (by kernel_rfl) (of_decide_eq_true (by kernel_rfl)) h1 bel lt1) (trodAll_cons_mk (Below.trod laidOut (by kernel_rfl) (of_decide_eq_true (by kernel_rfl)) h2 bel lt2) trodAll_mk0))), rfl, bel.frame _, fun h => by cases h⟩

theorem laid_met (os : Os) : laidMet Tryd.prog Rows.keysPlacesRow.laid ((laidWorld os).forCall (fun _ _ => 0) ⟨#[], #[.agg #[.int .u32 0, .int .u32 0, .int .u32 0, .int .u32 0], .agg #[.int .u8 0, .int .u8 0, .int .u8 0], .agg #[.int .u32 0, .int .u32 0, .int .u32 0, .int .u32 0]], []⟩).memory :=
  laidMet_of_run' 8 (by kernel_rfl) (by kernel_rfl)
theorem reads (os : Os) {H : Type} (enc : TypeId × Value → H) : ∃ places, DataW.whole enc Tryd.prog ((laidWorld os).forCall (fun _ _ => 0) ⟨#[], #[.agg #[.int .u32 0, .int .u32 0, .int .u32 0, .int .u32 0], .agg #[.int .u8 0, .int .u8 0, .int .u8 0], .agg #[.int .u32 0, .int .u32 0, .int .u32 0, .int .u32 0]], []⟩).memory Tryd.f9.params.toList Rows.keysPlacesSpec.vars false (#[.agg #[.int .u32 0, .int .u32 0, .int .u32 0, .int .u32 0], .agg #[.int .u8 0, .int .u8 0, .int .u8 0], .agg #[.int .u32 0, .int .u32 0, .int .u32 0, .int .u32 0]] : Array Value).toList 8 = some ([.agg [.lit (.int .u32 0), .lit (.int .u32 0), .lit (.int .u32 0), .lit (.int .u32 0)], .agg [.lit (.int .u8 0), .lit (.int .u8 0), .lit (.int .u8 0)], .agg [.lit (.int .u32 0), .lit (.int .u32 0), .lit (.int .u32 0), .lit (.int .u32 0)]], [], places) :=
  ⟨[], by kernel_rfl⟩

set_option maxRecDepth 100000 in
theorem lifted (os : Os) (started : os.Started) (H : Type) (enc : TypeId × Value → H) (F : Stop.Interp) :
    ReturnsInHanded {} Tryd.checked os 9 .any ((OpenSpec.ofChange Rows.keysPlacesSpec).preRow enc Tryd.prog Tryd.f9 Rows.keysPlacesRow.domain false Rows.keysPlacesRow.laid) (((OpenSpec.ofChange Rows.keysPlacesSpec).at F).post enc Tryd.prog Tryd.f9 false true false false) := by
  obtain ⟨places, hx⟩ := reads os enc
  refine returnsInHanded_of_row (C := Tryd.checked) (s := OpenSpec.ofChange Rows.keysPlacesSpec) own started (by kernel_rfl) Tryd.func9
    (witness_row_at (enc := enc) (C := Tryd.checked) false (laidWorld os) #[.agg #[.int .u32 0, .int .u32 0, .int .u32 0, .int .u32 0], .agg #[.int .u8 0, .int .u8 0, .int .u8 0], .agg #[.int .u32 0, .int .u32 0, .int .u32 0, .int .u32 0]] rfl (by kernel_rfl) (by kernel_rfl) (by kernel_rfl)
      (OpenSpec.preRow_of_cond 8 hx (by kernel_rfl) (fun k hk => by cases hk) (by kernel_rfl) (laid_met os))) ?_
  intro W base args ds gs before hval hW _ _ _ hL _ _
  exact contract H enc W base args ds gs before hval hW hL

theorem said : Rows.KeysPlacesSaid :=
  OpenClaim.holds_of_cond 9 Tryd.f9 rfl rfl rfl rfl rfl rfl rfl ⟨rfl, rfl, rfl, rfl, rfl⟩ rfl rfl rfl rfl rfl (by kernel_rfl) Tryd.func9 (by kernel_rfl)
    (of_decide_eq_true (by kernel_rfl)) (by unfold Func.isWrapper; first | (rw [if_pos (by decide +kernel)]; kernel_rfl) | (rw [if_neg (by decide +kernel)]; exact ⟨rfl, rfl⟩))
    (fun os started H enc _ F => by rw [OpenClaim.pre_eq_preRow]; exact lifted os started H enc F)

theorem plain (f : FuncId) (fn : Func) (hf : Tryd.pinned.checked.prog.funcNamed "seedcorn/seedcornlaw06.KeysPlaces" = some f) (hfn : Tryd.pinned.checked.prog.funcs[f]? = some fn) :
    false = Tryd.pinned.checked.prog.looks [] ∧ ∀ (j : Nat) t, fn.params[j]? = some t → Tryd.pinned.checked.prog.wantsStandIn t = false := by
  obtain rfl : f = 9 := Option.some.inj ((show Tryd.prog.funcNamed "seedcorn/seedcornlaw06.KeysPlaces" = some 9 by kernel_rfl).symm.trans hf) |>.symm
  obtain rfl : fn = Tryd.f9 := (Option.some.inj (Tryd.func9.symm.trans hfn)).symm
  refine ⟨by kernel_rfl, fun j t ht => ?_⟩
  rw [Tryd.params9] at ht
  have hm := Array.mem_of_getElem? ht
  have hm' : t = 24 ∨ t = 54 ∨ t = 24 := by simpa using hm
  rcases hm' with rfl | rfl | rfl
  · exact (show Tryd.prog.wantsStandIn 24 = false by kernel_rfl)
  · exact (show Tryd.prog.wantsStandIn 54 = false by kernel_rfl)
  · exact (show Tryd.prog.wantsStandIn 24 = false by kernel_rfl)

/-- The card. -/
theorem card : Rows.KeysPlacesCardSaid :=
  Claim7.holds_tied_plain_at .later [] _ _ _ _ said (fun _ h => by cases h) (by kernel_rfl) (fun _ h => by cases h) keysPlaces_row_tie rfl ⟨rfl, rfl⟩ (by kernel_rfl) rfl plain (by kernel_rfl)
end Go.Proofs.YtfbefenagnlnfaaDoor.keysPlaces
