/- The law KeysSigns: for every seed, place and message it returns true, and all read as before. The tables that it reads hold what the program's text lays (the card ties them). No other condition. -/
import Derived.Test.YtfbefenagnlnfaaDoorKeyR
import Derived.Test.YtfbefenagnlnfaaDoorKeyW
namespace Go.Proofs.YtfbefenagnlnfaaDoor.keysSigns
open Go.ChangeShapes Go.WideShapes Go.ChangeAt Go.RowKit
set_option linter.unusedVariables false

theorem cells2 {w : World} {b : Nat} {t : TypeId} {v0 v1 : Value} (h : w.heap[b]? = some (.cells #[v0, v1] t (0, 0))) : w.cell? ⟨b, 0, none⟩ = some v0 ∧ w.cell? ⟨b, 1, none⟩ = some v1 := by
  simp [World.cell?, h]
set_option maxRecDepth 100000 in
set_option maxHeartbeats 4000000 in
theorem walk_skip {x0 x1 x2 x3 y0 y1 y2 y3 h i : Int} (o0 : Ok4 [x0, x1, x2, x3]) (o1 : Ok4 [y0, y1, y2, y3]) (hh : h = 3 ∨ h = 4) (w : World) (ht : Tabs w) :
    Calls Tryd.prog 4 #[ag [x0, x1, x2, x3], .agg #[.int .i64 h, .int .i64 i], ag [y0, y1, y2, y3]] w fun e w' => e = .returned (.bool true) ∧ Below w.heap.size w w' := by
  have CA := Lib.hid (fun w ht => awake6 w ht)
  rw [ag4, ag4]
  have HT := Lib.hid ht
  have HK := Lib.hid ((((Kx.nil none w).more (.cells #[.int .u32 x0, .int .u32 x1, .int .u32 x2, .int .u32 x3] 24 (0, 0))).add (w.heap.size + 1) (by simp) (.cells #[.int .i64 h, .int .i64 i] 34 (0, 0))).add (w.heap.size + 1 + 1) (by simp) (.cells #[.int .u32 y0, .int .u32 y1, .int .u32 y2, .int .u32 y3] 24 (0, 0)))
  clear ht
  rcases hh with rfl | rfl
  · go_enter Tryd.func4, Tryd.ntmps4
    go_wp2_with fail
    refine (CA.out _ (HT.out.oldn HK.out)).mono ?_
    rintro e w1 ⟨rfl, hb⟩
    replace HK := Lib.hid (HK.out.after hb)
    clear hb
    obtain ⟨b0, b1⟩ := cells2 (HK.out.at 1 rfl)
    go_wp2_with fail
    go_ret
    exact ⟨rfl, HK.out.be.plain⟩
  · go_enter Tryd.func4, Tryd.ntmps4
    go_wp2_with fail
    refine (CA.out _ (HT.out.oldn HK.out)).mono ?_
    rintro e w1 ⟨rfl, hb⟩
    replace HK := Lib.hid (HK.out.after hb)
    clear hb
    obtain ⟨b0, b1⟩ := cells2 (HK.out.at 1 rfl)
    go_wp2_with fail
    go_ret
    exact ⟨rfl, HK.out.be.plain⟩
set_option maxRecDepth 100000 in
set_option maxHeartbeats 4000000 in
theorem walk_err {x0 x1 x2 x3 y0 y1 y2 y3 h i : Int} {er : Int} (o0 : Ok4 [x0, x1, x2, x3]) (o1 : Ok4 [y0, y1, y2, y3]) (hh : ¬ h = 3 ∧ ¬ h = 4) (he : er = 1 ∨ er = 2)
    (c1 : ∀ w : World, Tabs w → Calls Tryd.prog 14 #[ag [x0, x1, x2, x3], .int .i64 h, .int .i64 i, ag [y0, y1, y2, y3]] w (SgE w 0 [] [] er))
    (c2 : ∀ w : World, Tabs w → Calls Tryd.prog 15 #[ag [x0, x1, x2, x3], .int .i64 h, .int .i64 i, ag [y0, y1, y2, y3]] w (SgE w 0 [] [] er)) (w : World) (ht : Tabs w) :
    Calls Tryd.prog 4 #[ag [x0, x1, x2, x3], .agg #[.int .i64 h, .int .i64 i], ag [y0, y1, y2, y3]] w fun e w' => e = .returned (.bool true) ∧ Below w.heap.size w w' := by
  have CA := Lib.hid (fun w ht => awake6 w ht)
  rw [ag4, ag4] at c1 c2
  have C1 := Lib.hid c1
  have C2 := Lib.hid c2
  have g3 : (h == 3) = false := by rw [beq_eq_false_iff_ne]; omega
  have g4 : (h == 4) = false := by rw [beq_eq_false_iff_ne]; omega
  obtain ⟨k3, k4⟩ := hh
  rw [ag4, ag4]
  have HT := Lib.hid ht
  have HK := Lib.hid ((((Kx.nil none w).more (.cells #[.int .u32 x0, .int .u32 x1, .int .u32 x2, .int .u32 x3] 24 (0, 0))).add (w.heap.size + 1) (by simp) (.cells #[.int .i64 h, .int .i64 i] 34 (0, 0))).add (w.heap.size + 1 + 1) (by simp) (.cells #[.int .u32 y0, .int .u32 y1, .int .u32 y2, .int .u32 y3] 24 (0, 0)))
  clear ht c1 c2
  rcases he with rfl | rfl
  · go_enter Tryd.func4, Tryd.ntmps4
    go_wp2_with fail
    refine (CA.out _ (HT.out.oldn HK.out)).mono ?_
    rintro e w1 ⟨rfl, hb⟩
    replace HK := Lib.hid (HK.out.after hb)
    clear hb
    obtain ⟨b0, b1⟩ := cells2 (HK.out.at 1 rfl)
    obtain ⟨a0, a1, a2, a3, _⟩ := cells4 (HK.out.at 0 rfl)
    obtain ⟨e0, e1, e2, e3, _⟩ := cells4 (HK.out.at 2 rfl)
    go_wp2_with fail
    refine (C1.out _ (HT.out.oldn HK.out)).mono ?_
    rintro e w2 ⟨v1, rfl, hx, hb⟩
    have hv1 := hx.v
    obtain ⟨A1, n1, c1, B1, m1, d1, rfl, _, _⟩ := hx
    replace HK := Lib.hid ((HK.out.after hb).more (.cells #[.int .i64 0, .slice A1 n1 c1, .slice B1 m1 d1] 38 (0, 0)))
    have HV1 := Lib.hid (hv1.kept ((Below.refl _ w2).alloc (Nat.le_refl _) (.cells #[.int .i64 0, .slice A1 n1 c1, .slice B1 m1 d1] 38 (0, 0))))
    clear hv1
    clear hb a0 a1 a2 a3 b0 b1 e0 e1 e2 e3
    obtain ⟨a0, a1, a2, a3, _⟩ := cells4 (HK.out.at 0 rfl)
    obtain ⟨b0, b1⟩ := cells2 (HK.out.at 1 rfl)
    obtain ⟨e0, e1, e2, e3, _⟩ := cells4 (HK.out.at 2 rfl)
    go_wp2_with fail
    refine (C2.out _ (HT.out.oldn HK.out)).mono ?_
    rintro e w3 ⟨v2, rfl, hx, hb⟩
    have hv2 := hx.v
    obtain ⟨A2, n2, c2, B2, m2, d2, rfl, _, _⟩ := hx
    replace HK := Lib.hid ((HK.out.after hb).more (.cells #[.int .i64 0, .slice A2 n2 c2, .slice B2 m2 d2] 38 (0, 0)))
    replace HV1 := Lib.hid (HV1.out.kept (hb.alloc hb.size (.cells #[.int .i64 0, .slice A2 n2 c2, .slice B2 m2 d2] 38 (0, 0))))
    have HV2 := Lib.hid (hv2.kept ((Below.refl _ w3).alloc (Nat.le_refl _) (.cells #[.int .i64 0, .slice A2 n2 c2, .slice B2 m2 d2] 38 (0, 0))))
    clear hv2
    clear hb a0 a1 a2 a3 b0 b1 e0 e1 e2 e3
    obtain ⟨f0, f1, f2, _⟩ := cells3 (HK.out.at 3 rfl)
    obtain ⟨g0, g1, g2, _⟩ := cells3 (HK.out.at 4 rfl)
    go_wp2_with fail
    refine (same6r_yes _ HV1.out HV2.out (by simp) (by simp)).mono ?_
    rintro e w4 ⟨rfl, hb⟩
    replace HK := Lib.hid (HK.out.after hb)
    replace HV1 := Lib.hid (HV1.out.kept hb)
    clear hb f0 f1 f2 g0 g1 g2
    go_wp2_with fail
    go_ret
    exact ⟨rfl, HK.out.be.plain⟩
  · go_enter Tryd.func4, Tryd.ntmps4
    go_wp2_with fail
    refine (CA.out _ (HT.out.oldn HK.out)).mono ?_
    rintro e w1 ⟨rfl, hb⟩
    replace HK := Lib.hid (HK.out.after hb)
    clear hb
    obtain ⟨b0, b1⟩ := cells2 (HK.out.at 1 rfl)
    obtain ⟨a0, a1, a2, a3, _⟩ := cells4 (HK.out.at 0 rfl)
    obtain ⟨e0, e1, e2, e3, _⟩ := cells4 (HK.out.at 2 rfl)
    go_wp2_with fail
    refine (C1.out _ (HT.out.oldn HK.out)).mono ?_
    rintro e w2 ⟨v1, rfl, hx, hb⟩
    have hv1 := hx.v
    obtain ⟨A1, n1, c1, B1, m1, d1, rfl, _, _⟩ := hx
    replace HK := Lib.hid ((HK.out.after hb).more (.cells #[.int .i64 0, .slice A1 n1 c1, .slice B1 m1 d1] 38 (0, 0)))
    have HV1 := Lib.hid (hv1.kept ((Below.refl _ w2).alloc (Nat.le_refl _) (.cells #[.int .i64 0, .slice A1 n1 c1, .slice B1 m1 d1] 38 (0, 0))))
    clear hv1
    clear hb a0 a1 a2 a3 b0 b1 e0 e1 e2 e3
    obtain ⟨a0, a1, a2, a3, _⟩ := cells4 (HK.out.at 0 rfl)
    obtain ⟨b0, b1⟩ := cells2 (HK.out.at 1 rfl)
    obtain ⟨e0, e1, e2, e3, _⟩ := cells4 (HK.out.at 2 rfl)
    go_wp2_with fail
    refine (C2.out _ (HT.out.oldn HK.out)).mono ?_
    rintro e w3 ⟨v2, rfl, hx, hb⟩
    have hv2 := hx.v
    obtain ⟨A2, n2, c2, B2, m2, d2, rfl, _, _⟩ := hx
    replace HK := Lib.hid ((HK.out.after hb).more (.cells #[.int .i64 0, .slice A2 n2 c2, .slice B2 m2 d2] 38 (0, 0)))
    replace HV1 := Lib.hid (HV1.out.kept (hb.alloc hb.size (.cells #[.int .i64 0, .slice A2 n2 c2, .slice B2 m2 d2] 38 (0, 0))))
    have HV2 := Lib.hid (hv2.kept ((Below.refl _ w3).alloc (Nat.le_refl _) (.cells #[.int .i64 0, .slice A2 n2 c2, .slice B2 m2 d2] 38 (0, 0))))
    clear hv2
    clear hb a0 a1 a2 a3 b0 b1 e0 e1 e2 e3
    obtain ⟨f0, f1, f2, _⟩ := cells3 (HK.out.at 3 rfl)
    obtain ⟨g0, g1, g2, _⟩ := cells3 (HK.out.at 4 rfl)
    go_wp2_with fail
    refine (same6r_yes _ HV1.out HV2.out (by simp) (by simp)).mono ?_
    rintro e w4 ⟨rfl, hb⟩
    replace HK := Lib.hid (HK.out.after hb)
    replace HV1 := Lib.hid (HV1.out.kept hb)
    clear hb f0 f1 f2 g0 g1 g2
    go_wp2_with fail
    go_ret
    exact ⟨rfl, HK.out.be.plain⟩
set_option maxRecDepth 100000 in
set_option maxHeartbeats 4000000 in
theorem walk_good {x0 x1 x2 x3 y0 y1 y2 y3 : Int} {h i : Nat} (o0 : Ok4 [x0, x1, x2, x3]) (o1 : Ok4 [y0, y1, y2, y3]) (hh : h ≤ 2) (hi : i < 2 ^ h) (w : World) (ht : Tabs w) :
    Calls Tryd.prog 4 #[ag [x0, x1, x2, x3], .agg #[.int .i64 (h : Int), .int .i64 (i : Int)], ag [y0, y1, y2, y3]] w fun e w' => e = .returned (.bool true) ∧ Below w.heap.size w w' := by
  have CA := Lib.hid (fun w ht => awake6 w ht)
  have c1 := fun w ht => sign6_yes _ _ h i w o0 o1 (by omega) hi ht
  have c2 := fun w ht => sign6r_yes _ _ h i w o0 o1 (by omega) hi ht
  have c3 := fun w ht => public6_yes _ h w o0 (by omega) ht
  have op := kpub_ok o0 h
  have hw := way_full h (kys [x0, x1, x2, x3] h) i (kys_length _ _) hi
  have h35 : (sgn (ksd [x0, x1, x2, x3] i) [y0, y1, y2, y3]).length = 35 := upto_length _ _
  have hk := khd_sig (seed := [x0, x1, x2, x3]) (msg := [y0, y1, y2, y3]) (h := h) (i := i) (by omega) hi
  have c4 := fun (v : Value) (w : World) hv ht => check6 (idx := (i : Int)) (one := sgn (ksd [x0, x1, x2, x3] i) [y0, y1, y2, y3]) (path := mway (kys [x0, x1, x2, x3] h) i) (v := v) w op o1 hv ht
  rw [hk] at c4
  obtain ⟨p0, p1, p2, p3, ep, _⟩ := ok4 op
  obtain ⟨S, hS⟩ : ∃ S, sgn (ksd [x0, x1, x2, x3] i) [y0, y1, y2, y3] = S := ⟨_, rfl⟩
  obtain ⟨R, hR⟩ : ∃ R, mway (kys [x0, x1, x2, x3] h) i = R := ⟨_, rfl⟩
  rw [hS, hR] at c1 c2 c4
  rw [hS] at h35
  rw [hR] at hw
  rw [ep] at c3 c4
  rw [ag4, ag4] at c1 c2 c3 c4
  have hSl : S.length ≤ 1024 := by omega
  have hRl : R.length ≤ 1024 := by omega
  have HSL := Lib.hid hSl
  have HRL := Lib.hid hRl
  have C1 := Lib.hid c1
  have C2 := Lib.hid c2
  have C3 := Lib.hid c3
  have C4 := Lib.hid c4
  have g3 : ((h : Int) == 3) = false := by rw [beq_eq_false_iff_ne]; omega
  have g4 : ((h : Int) == 4) = false := by rw [beq_eq_false_iff_ne]; omega
  have k3 : ¬ (h : Int) = 3 := by omega
  have k4 : ¬ (h : Int) = 4 := by omega
  have k5 : ¬ h = 3 := by omega
  have k6 : ¬ h = 4 := by omega
  rw [ag4, ag4]
  have HT := Lib.hid ht
  have HK := Lib.hid ((((Kx.nil none w).more (.cells #[.int .u32 x0, .int .u32 x1, .int .u32 x2, .int .u32 x3] 24 (0, 0))).add (w.heap.size + 1) (by simp) (.cells #[.int .i64 (h : Int), .int .i64 (i : Int)] 34 (0, 0))).add (w.heap.size + 1 + 1) (by simp) (.cells #[.int .u32 y0, .int .u32 y1, .int .u32 y2, .int .u32 y3] 24 (0, 0)))
  clear ht c1 c2 c3 c4 hk hS hR hw h35 hSl hRl ep op hh hi
  go_enter Tryd.func4, Tryd.ntmps4
  go_wp2_with fail
  refine (CA.out _ (HT.out.oldn HK.out)).mono ?_
  rintro e w1 ⟨rfl, hb⟩
  replace HK := Lib.hid (HK.out.after hb)
  clear hb
  obtain ⟨b0, b1⟩ := cells2 (HK.out.at 1 rfl)
  obtain ⟨a0, a1, a2, a3, _⟩ := cells4 (HK.out.at 0 rfl)
  obtain ⟨e0, e1, e2, e3, _⟩ := cells4 (HK.out.at 2 rfl)
  go_wp2_with fail
  refine (C1.out _ (HT.out.oldn HK.out)).mono ?_
  rintro e w2 ⟨v1, rfl, hx, hb⟩
  have hv1 := hx.v
  obtain ⟨A1, n1, c1, B1, m1, d1, rfl, _, _⟩ := hx
  replace HK := Lib.hid ((HK.out.after hb).more (.cells #[.int .i64 (i : Int), .slice A1 n1 c1, .slice B1 m1 d1] 38 (0, 0)))
  have HV1 := Lib.hid (hv1.kept ((Below.refl _ w2).alloc (Nat.le_refl _) (.cells #[.int .i64 (i : Int), .slice A1 n1 c1, .slice B1 m1 d1] 38 (0, 0))))
  clear hv1
  clear hb a0 a1 a2 a3 b0 b1 e0 e1 e2 e3
  obtain ⟨a0, a1, a2, a3, _⟩ := cells4 (HK.out.at 0 rfl)
  obtain ⟨b0, b1⟩ := cells2 (HK.out.at 1 rfl)
  obtain ⟨e0, e1, e2, e3, _⟩ := cells4 (HK.out.at 2 rfl)
  go_wp2_with fail
  refine (C2.out _ (HT.out.oldn HK.out)).mono ?_
  rintro e w3 ⟨v2, rfl, hx, hb⟩
  have hv2 := hx.v
  obtain ⟨A2, n2, c2, B2, m2, d2, rfl, _, _⟩ := hx
  replace HK := Lib.hid ((HK.out.after hb).more (.cells #[.int .i64 (i : Int), .slice A2 n2 c2, .slice B2 m2 d2] 38 (0, 0)))
  replace HV1 := Lib.hid (HV1.out.kept (hb.alloc hb.size (.cells #[.int .i64 (i : Int), .slice A2 n2 c2, .slice B2 m2 d2] 38 (0, 0))))
  have HV2 := Lib.hid (hv2.kept ((Below.refl _ w3).alloc (Nat.le_refl _) (.cells #[.int .i64 (i : Int), .slice A2 n2 c2, .slice B2 m2 d2] 38 (0, 0))))
  clear hv2
  clear hb a0 a1 a2 a3 b0 b1 e0 e1 e2 e3
  obtain ⟨f0, f1, f2, _⟩ := cells3 (HK.out.at 3 rfl)
  obtain ⟨g0, g1, g2, _⟩ := cells3 (HK.out.at 4 rfl)
  go_wp2_with fail
  refine (same6r_yes _ HV1.out HV2.out (HSL.out) (HRL.out)).mono ?_
  rintro e w4 ⟨rfl, hb⟩
  replace HK := Lib.hid (HK.out.after hb)
  replace HV1 := Lib.hid (HV1.out.kept hb)
  clear hb f0 f1 f2 g0 g1 g2
  obtain ⟨a0, a1, a2, a3, _⟩ := cells4 (HK.out.at 0 rfl)
  obtain ⟨b0, b1⟩ := cells2 (HK.out.at 1 rfl)
  go_wp2_with fail
  refine (C3.out _ (HT.out.oldn HK.out)).mono ?_
  rintro e w5 ⟨rfl, hb⟩
  replace HK := Lib.hid ((HK.out.after hb).more (.cells #[.int .u32 p0, .int .u32 p1, .int .u32 p2, .int .u32 p3] 24 (0, 0)))
  replace HV1 := Lib.hid (HV1.out.kept (hb.alloc hb.size (.cells #[.int .u32 p0, .int .u32 p1, .int .u32 p2, .int .u32 p3] 24 (0, 0))))
  clear hb a0 a1 a2 a3 b0 b1
  obtain ⟨e0, e1, e2, e3, _⟩ := cells4 (HK.out.at 2 rfl)
  obtain ⟨f0, f1, f2, _⟩ := cells3 (HK.out.at 3 rfl)
  obtain ⟨g0, g1, g2, g5, _⟩ := cells4 (HK.out.at 5 rfl)
  go_wp2_with fail
  refine (C4.out _ _ HV1.out (HT.out.oldn HK.out)).mono ?_
  rintro e w6 ⟨rfl, hb⟩
  replace HK := Lib.hid (HK.out.after hb)
  clear hb
  go_wp2_with fail
  go_ret
  exact ⟨rfl, HK.out.be.plain⟩
theorem walk {x0 x1 x2 x3 y0 y1 y2 y3 h i : Int} (o0 : Ok4 [x0, x1, x2, x3]) (o1 : Ok4 [y0, y1, y2, y3]) (w : World) (ht : Tabs w) :
    Calls Tryd.prog 4 #[ag [x0, x1, x2, x3], .agg #[.int .i64 h, .int .i64 i], ag [y0, y1, y2, y3]] w fun e w' => e = .returned (.bool true) ∧ Below w.heap.size w w' := by
  by_cases h2 : h = 3 ∨ h = 4
  · exact walk_skip o0 o1 h2 w ht
  · by_cases h1 : h < 0 ∨ 4 < h
    · exact walk_err o0 o1 (by omega) (.inr rfl) (fun w _ => sign6_no _ _ h i w o0 o1 h1) (fun w _ => sign6r_no _ _ h i w o0 o1 h1) w ht
    · obtain ⟨n, rfl⟩ : ∃ n : Nat, h = (n : Int) := ⟨h.toNat, by omega⟩
      by_cases h3 : i < 0 ∨ ((2 ^ n : Nat) : Int) ≤ i
      · exact walk_err o0 o1 (by omega) (.inl rfl) (fun w ht => sign6_arg _ _ n i w o0 o1 (by omega) h3 ht) (fun w _ => sign6r_arg _ _ n i w o0 o1 (by omega) h3) w ht
      · obtain ⟨k, rfl⟩ : ∃ k : Nat, i = (k : Int) := ⟨i.toNat, by omega⟩
        exact walk_good o0 o1 (by omega) (by omega) w ht

set_option maxRecDepth 100000 in
theorem contract (H : Type) (enc : TypeId × Value → H) (W : World) (base : Nat) (args : Array Value) (ds gs : List (DataW H)) (before : List MemPlace)
    (hval : ∀ (j : Nat) t v, Tryd.f4.params[j]? = some t → args[j]? = some v → Value.okWide Tryd.prog W .any base t v)
    (hW : DataW.Whole enc Tryd.prog Tryd.f4.params.toList Rows.keysSignsSpec.vars false W args.toList ds gs before) (hL : laidMetH Tryd.prog Rows.keysSignsRow.laid W) :
    Calls Tryd.prog 4 args W fun e W' => ∃ v, e = .returned v ∧ Rows.keysSignsSpec.post enc Tryd.prog Tryd.f4 false true false false W args v W' := by
  have hW' := hW
  obtain ⟨p, q, hA0, hV, rfl, hfz, hnd⟩ := hW
  have hA : DataW.TrodAll enc Tryd.prog W 0 (fun _ => true) true Tryd.f4.params.toList args.toList ds p := hA0
  rw [Tryd.params4] at hA hval
  obtain ⟨v0, vs0, d0, ds0, p0, q0, hargs, rfl, rfl, h0, r0⟩ := trodAll_cons hA
  obtain ⟨v1, vs1, d1, ds1, p1, q1, rfl, rfl, rfl, h1, r1⟩ := trodAll_cons r0
  obtain ⟨v2, vs2, d2, ds2, p2, q2, rfl, rfl, rfl, h2, r2⟩ := trodAll_cons r1
  obtain ⟨rfl, rfl, rfl⟩ := trodAll_nil r2
  obtain rfl : args = #[v0, v1, v2] := by cases args; simp_all
  obtain ⟨rfl, rfl⟩ := trodVars_none hV
  have lt0 : ∀ x ∈ p0, x.block < W.heap.size := by obtain ⟨m, hm⟩ := h0; exact DataW.trod_lt m _ _ _ hm
  obtain ⟨x00, x01, x02, x03, rfl, o0⟩ := open_dig (hval 0 24 v0 rfl rfl) h0
  have lt1 : ∀ x ∈ p1, x.block < W.heap.size := by obtain ⟨m, hm⟩ := h1; exact DataW.trod_lt m _ _ _ hm
  obtain ⟨y0, y1, rfl, wy0, wy1⟩ := open_i2 (hval 1 34 v1 rfl rfl) h1
  have lt2 : ∀ x ∈ p2, x.block < W.heap.size := by obtain ⟨m, hm⟩ := h2; exact DataW.trod_lt m _ _ _ hm
  obtain ⟨x20, x21, x22, x23, rfl, o2⟩ := open_dig (hval 2 24 v2 rfl rfl) h2
  clear hA0
  refine (walk o0 o2 W  (tabs_of hL)).mono fun e W' ⟨he, bel⟩ => ?_
  subst he
  exact ⟨_, rfl, _, _, _, [], _, [], hW', trodAll_mk1 (shut_bool Tryd.underlying4 _), (trodAll_cons_mk (Below.trod laidOut (by kernel_rfl) (of_decide_eq_true (by kernel_rfl)) h0 bel lt0) (trodAll_cons_mk (Below.trod laidOut (by kernel_rfl) (of_decide_eq_true (by kernel_rfl)) h1 bel lt1) (trodAll_cons_mk (Below.trod laidOut (by kernel_rfl) (of_decide_eq_true (by kernel_rfl)) h2 bel lt2) trodAll_mk0))), rfl, bel.frame _, fun h => by cases h⟩

theorem laid_met (os : Os) : laidMet Tryd.prog Rows.keysSignsRow.laid ((laidWorld os).forCall (fun _ _ => 0) ⟨#[], #[.agg #[.int .u32 0, .int .u32 0, .int .u32 0, .int .u32 0], .agg #[.int .i64 0, .int .i64 0], .agg #[.int .u32 0, .int .u32 0, .int .u32 0, .int .u32 0]], []⟩).memory :=
  laidMet_of_run' 8 (by kernel_rfl) (by kernel_rfl)
theorem reads (os : Os) {H : Type} (enc : TypeId × Value → H) : ∃ places, DataW.whole enc Tryd.prog ((laidWorld os).forCall (fun _ _ => 0) ⟨#[], #[.agg #[.int .u32 0, .int .u32 0, .int .u32 0, .int .u32 0], .agg #[.int .i64 0, .int .i64 0], .agg #[.int .u32 0, .int .u32 0, .int .u32 0, .int .u32 0]], []⟩).memory Tryd.f4.params.toList Rows.keysSignsSpec.vars false (#[.agg #[.int .u32 0, .int .u32 0, .int .u32 0, .int .u32 0], .agg #[.int .i64 0, .int .i64 0], .agg #[.int .u32 0, .int .u32 0, .int .u32 0, .int .u32 0]] : Array Value).toList 8 = some ([.agg [.lit (.int .u32 0), .lit (.int .u32 0), .lit (.int .u32 0), .lit (.int .u32 0)], .agg [.lit (.int .i64 0), .lit (.int .i64 0)], .agg [.lit (.int .u32 0), .lit (.int .u32 0), .lit (.int .u32 0), .lit (.int .u32 0)]], [], places) :=
  ⟨[], by kernel_rfl⟩

set_option maxRecDepth 100000 in
theorem lifted (os : Os) (started : os.Started) (H : Type) (enc : TypeId × Value → H) (F : Stop.Interp) :
    ReturnsInHanded {} Tryd.checked os 4 .any ((OpenSpec.ofChange Rows.keysSignsSpec).preRow enc Tryd.prog Tryd.f4 Rows.keysSignsRow.domain false Rows.keysSignsRow.laid) (((OpenSpec.ofChange Rows.keysSignsSpec).at F).post enc Tryd.prog Tryd.f4 false true false false) := by
  obtain ⟨places, hx⟩ := reads os enc
  refine returnsInHanded_of_row (C := Tryd.checked) (s := OpenSpec.ofChange Rows.keysSignsSpec) own started (by kernel_rfl) Tryd.func4
    (witness_row_at (enc := enc) (C := Tryd.checked) false (laidWorld os) #[.agg #[.int .u32 0, .int .u32 0, .int .u32 0, .int .u32 0], .agg #[.int .i64 0, .int .i64 0], .agg #[.int .u32 0, .int .u32 0, .int .u32 0, .int .u32 0]] rfl (by kernel_rfl) (by kernel_rfl) (by kernel_rfl)
      (OpenSpec.preRow_of_cond 8 hx (by kernel_rfl) (fun k hk => by cases hk) (by kernel_rfl) (laid_met os))) ?_
  intro W base args ds gs before hval hW _ _ _ hL _ _
  exact contract H enc W base args ds gs before hval hW hL

theorem said : Rows.KeysSignsSaid :=
  OpenClaim.holds_of_cond 4 Tryd.f4 rfl rfl rfl rfl rfl rfl rfl ⟨rfl, rfl, rfl, rfl, rfl⟩ rfl rfl rfl rfl rfl (by kernel_rfl) Tryd.func4 (by kernel_rfl)
    (of_decide_eq_true (by kernel_rfl)) (by unfold Func.isWrapper; first | (rw [if_pos (by decide +kernel)]; kernel_rfl) | (rw [if_neg (by decide +kernel)]; exact ⟨rfl, rfl⟩))
    (fun os started H enc _ F => by rw [OpenClaim.pre_eq_preRow]; exact lifted os started H enc F)

theorem plain (f : FuncId) (fn : Func) (hf : Tryd.pinned.checked.prog.funcNamed "seedcorn/seedcornlaw06.KeysSigns" = some f) (hfn : Tryd.pinned.checked.prog.funcs[f]? = some fn) :
    false = Tryd.pinned.checked.prog.looks [] ∧ ∀ (j : Nat) t, fn.params[j]? = some t → Tryd.pinned.checked.prog.wantsStandIn t = false := by
  obtain rfl : f = 4 := Option.some.inj ((show Tryd.prog.funcNamed "seedcorn/seedcornlaw06.KeysSigns" = some 4 by kernel_rfl).symm.trans hf) |>.symm
  obtain rfl : fn = Tryd.f4 := (Option.some.inj (Tryd.func4.symm.trans hfn)).symm
  refine ⟨by kernel_rfl, fun j t ht => ?_⟩
  rw [Tryd.params4] at ht
  have hm := Array.mem_of_getElem? ht
  have hm' : t = 24 ∨ t = 34 ∨ t = 24 := by simpa using hm
  rcases hm' with rfl | rfl | rfl
  · exact (show Tryd.prog.wantsStandIn 24 = false by kernel_rfl)
  · exact (show Tryd.prog.wantsStandIn 34 = false by kernel_rfl)
  · exact (show Tryd.prog.wantsStandIn 24 = false by kernel_rfl)

/-- The card. -/
theorem card : Rows.KeysSignsCardSaid :=
  Claim7.holds_tied_plain_at .later [] _ _ _ _ said (fun _ h => by cases h) (by kernel_rfl) (fun _ h => by cases h) keysSigns_row_tie rfl ⟨rfl, rfl⟩ (by kernel_rfl) rfl plain (by kernel_rfl)
end Go.Proofs.YtfbefenagnlnfaaDoor.keysSigns
