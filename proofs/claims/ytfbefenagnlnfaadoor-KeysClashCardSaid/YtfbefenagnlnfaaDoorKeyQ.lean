/- The law's awake: the document's fixed answers: true. -/
import Derived.Test.YtfbefenagnlnfaaDoorKeyS
set_option linter.unusedVariables false
namespace Go.Proofs.YtfbefenagnlnfaaDoor
open Go.RowKit

set_option maxRecDepth 1000000 in
theorem pub_unlike : same (pubk (ksd [1, 2, 3, 4] 0)) [1, 2, 3, 4] = false := by
  have h : decide (pubk (ksd [1, 2, 3, 4] 0) = [1, 2, 3, 4]) = false := by decide +kernel
  exact h
theorem kpub_one (seed : Ws) : kpub seed 0 = pubk (ksd seed 0) := by
  have e : kys seed 0 = [kpk seed 0] := by simp [kys, upto]
  unfold kpub
  rw [root_small (by rw [kys_length]; decide), e, List.headD_cons]
  rfl
theorem way_one (seed : Ws) : mway (kys seed 0) 0 = [] := way_small (by rw [kys_length]; decide) 0
theorem khd_wrong (msg : Ws) : khd [1, 2, 3, 4] msg 0 (sgn (ksd [1, 2, 3, 4] 0) msg) [] = false := by
  have h := khd_at (pub := [1, 2, 3, 4]) (msg := msg) (i := 0) (one := sgn (ksd [1, 2, 3, 4] 0) msg) (path := []) (by simp) (upto_length _ _) (by simp)
  rw [rch_sgn] at h
  exact h.trans pub_unlike
theorem ok_1234 : Ok4 [1, 2, 3, 4] := mk4 ⟨by omega, by omega⟩ ⟨by omega, by omega⟩ ⟨by omega, by omega⟩ ⟨by omega, by omega⟩
theorem ok_5 : Ok4 [5, 0, 0, 0] := mk4 ⟨by omega, by omega⟩ ⟨by omega, by omega⟩ ⟨by omega, by omega⟩ ⟨by omega, by omega⟩
theorem allQ {w W : World} {p q r s : Nat} {bs : List (Nat × Obj)} {t1 t2 t3 t4 : TypeId} {x0 x1 x2 x3 y0 y1 y2 y3 z0 z1 z2 z3 u0 u1 u2 : Value} (h : Kx none w W ((p, .cells #[x0, x1, x2, x3] t1 (0, 0)) :: (q, .cells #[y0, y1, y2, y3] t2 (0, 0)) :: (r, .cells #[z0, z1, z2, z3] t3 (0, 0)) :: (s, .cells #[u0, u1, u2] t4 (0, 0)) :: bs)) :
    W.cell? ⟨p, 0, none⟩ = some x0 ∧ W.cell? ⟨p, 1, none⟩ = some x1 ∧ W.cell? ⟨p, 2, none⟩ = some x2 ∧ W.cell? ⟨p, 3, none⟩ = some x3 ∧ W.cell? ⟨q, 0, none⟩ = some y0 ∧ W.cell? ⟨q, 1, none⟩ = some y1 ∧ W.cell? ⟨q, 2, none⟩ = some y2 ∧ W.cell? ⟨q, 3, none⟩ = some y3 ∧ W.cell? ⟨r, 0, none⟩ = some z0 ∧ W.cell? ⟨r, 1, none⟩ = some z1 ∧ W.cell? ⟨r, 2, none⟩ = some z2 ∧ W.cell? ⟨r, 3, none⟩ = some z3 ∧ W.cell? ⟨s, 0, none⟩ = some u0 ∧ W.cell? ⟨s, 1, none⟩ = some u1 ∧ W.cell? ⟨s, 2, none⟩ = some u2 := by
  obtain ⟨a0, a1, a2, a3, _⟩ := cells4 (h.at 0 rfl)
  obtain ⟨b0, b1, b2, b3, _⟩ := cells4 (h.at 1 rfl)
  obtain ⟨c0, c1, c2, c3, _⟩ := cells4 (h.at 2 rfl)
  obtain ⟨d0, d1, d2, _⟩ := cells3 (h.at 3 rfl)
  exact ⟨a0, a1, a2, a3, b0, b1, b2, b3, c0, c1, c2, c3, d0, d1, d2⟩
set_option maxRecDepth 100000 in
set_option maxHeartbeats 4000000 in
theorem awake6 (w : World) (ht : Tabs w) :
    Calls Tryd.prog 10 #[] w fun e w' => e = .returned (.bool true) ∧ Below w.heap.size w w' := by
  have c1 := fun w ht => public6_yes [1, 2, 3, 4] 0 w ok_1234 (by omega) ht
  have c2 := fun w ht => sign6_yes [1, 2, 3, 4] [5, 0, 0, 0] 0 0 w ok_1234 ok_5 (by omega) (by decide) ht
  have c3 := fun w => public6_no [1, 2, 3, 4] 5 w ok_1234 (.inr (by omega))
  have c4 := fun w ht => sign6_arg [1, 2, 3, 4] [5, 0, 0, 0] 0 1 w ok_1234 ok_5 (by omega) (.inr (by decide)) ht
  have op := kpub_ok ok_1234 0
  have c5 := fun (v : Value) (w : World) hv ht => check6 (idx := 0) (one := sgn (ksd [1, 2, 3, 4] 0) [5, 0, 0, 0]) (path := []) (v := v) w op ok_5 hv ht
  have c6 := fun (v : Value) (w : World) hv ht => check6 (idx := 0) (one := sgn (ksd [1, 2, 3, 4] 0) [5, 0, 0, 0]) (path := []) (v := v) w ok_1234 ok_5 hv ht
  have hk := khd_sig (seed := [1, 2, 3, 4]) (msg := [5, 0, 0, 0]) (h := 0) (i := 0) (by omega) (by decide)
  rw [way_one] at hk c2
  rw [show ((0 : Nat) : Int) = 0 from rfl] at hk c1 c2 c4
  rw [hk] at c5
  rw [khd_wrong] at c6
  have c7 := fun w => seed_ref [1, 2, 3, 4] 0 w ok_1234 (by omega)
  have c8 := fun w => public_ref (ksd [1, 2, 3, 4] 0) w (ksd_ok ok_1234 0)
  rw [← kpub_one] at c8
  have od := ksd_ok ok_1234 0
  obtain ⟨p0, p1, p2, p3, ep, _⟩ := ok4 op
  obtain ⟨d0, d1, d2, d3, ed, _⟩ := ok4 od
  rw [ep] at c1 c5 c8
  rw [ed] at c7 c8
  rw [show ((0 : Nat) : Int) = 0 from rfl] at c7
  simp only [ag4] at c1 c3 c5 c6 c7 c8
  obtain ⟨S, hS⟩ : ∃ S, sgn (ksd [1, 2, 3, 4] 0) [5, 0, 0, 0] = S := ⟨_, rfl⟩
  rw [hS] at c2 c5 c6
  have C1 := Lib.hid c1
  have C2 : Hid (∀ w : World, Tabs w → Calls Tryd.prog 14 #[.agg #[.int .u32 1, .int .u32 2, .int .u32 3, .int .u32 4], .int .i64 0, .int .i64 0, .agg #[.int .u32 5, .int .u32 0, .int .u32 0, .int .u32 0]] w fun e w' => ∃ A n c B d, e = .returned (.tuple #[.agg #[.int .i64 0, .slice A n c, .slice B 0 d], .int .i64 0]) ∧ SgV w' (.agg #[.int .i64 0, .slice A n c, .slice B 0 d]) 0 S [] ∧ Below w.heap.size w w') := Lib.hid (fun w ht => (c2 w ht).mono (by
    rintro e w' ⟨v, rfl, hv, hb⟩
    have hv2 := hv.v
    obtain ⟨A, n, c, B, m, d, rfl, h1, h2⟩ := hv
    obtain rfl : m = 0 := by have := h2.len; simpa using this.symm
    exact ⟨A, n, c, B, d, rfl, hv2, hb⟩))
  have C3 := Lib.hid c3
  have C4 : Hid (∀ w : World, Tabs w → Calls Tryd.prog 14 #[.agg #[.int .u32 1, .int .u32 2, .int .u32 3, .int .u32 4], .int .i64 0, .int .i64 1, .agg #[.int .u32 5, .int .u32 0, .int .u32 0, .int .u32 0]] w fun e w' => ∃ A n c B m d, e = .returned (.tuple #[.agg #[.int .i64 0, .slice A n c, .slice B m d], .int .i64 1]) ∧ Below w.heap.size w w') := Lib.hid (fun w ht => (c4 w ht).mono (by
    rintro e w' ⟨v, rfl, ⟨A, n, c, B, m, d, rfl, h1, h2⟩, hb⟩
    exact ⟨A, n, c, B, m, d, rfl, hb⟩))
  have C5 := Lib.hid c5
  have C6 := Lib.hid c6
  have C7 := Lib.hid c7
  have C8 := Lib.hid c8
  have HT := Lib.hid ht
  have q4 := eq4s
  have s0 := same_self
  have HK := Lib.hid (((Kx.nil none w).more (.cells #[.int .u32 1, .int .u32 2, .int .u32 3, .int .u32 4] 24 (0, 0))).add (w.heap.size + 1) (by simp) (.cells #[.int .u32 5, .int .u32 0, .int .u32 0, .int .u32 0] 24 (0, 0)))
  clear c1 c2 c3 c4 c5 c6 c7 c8 hk hS ep ed op od ht
  go_enter Tryd.func10, Tryd.ntmps10
  go_wp2_with fail
  refine (C1.out _ (HT.out.oldn HK.out)).mono ?_
  rintro e w1 ⟨rfl, hb⟩
  replace HK := Lib.hid ((HK.out.after hb).more (.cells #[.int .u32 p0, .int .u32 p1, .int .u32 p2, .int .u32 p3] 24 (0, 0)))
  clear hb
  obtain ⟨a0, a1, a2, a3, _⟩ := cells4 (HK.out.at 0 rfl)
  obtain ⟨b0, b1, b2, b3, _⟩ := cells4 (HK.out.at 1 rfl)
  go_wp2_with fail
  refine (C2.out _ (HT.out.oldn HK.out)).mono ?_
  rintro e w2 ⟨A, n, c, B, d, rfl, hv, hb⟩
  have HV := Lib.hid hv
  replace HK := Lib.hid ((HK.out.after hb).more (.cells #[.int .i64 0, .slice A n c, .slice B 0 d] 38 (0, 0)))
  replace HV := Lib.hid (HV.out.kept ((Below.refl _ w2).alloc (Nat.le_refl _) (.cells #[.int .i64 0, .slice A n c, .slice B 0 d] 38 (0, 0))))
  clear hb hv a0 a1 a2 a3 b0 b1 b2 b3
  obtain ⟨a0, a1, a2, a3, _⟩ := cells4 (HK.out.at 0 rfl)
  go_wp2_with fail
  refine (C3.out _).mono ?_
  rintro e w3 ⟨rfl, hb⟩
  replace HK := Lib.hid ((HK.out.after hb).more (.cells #[.int .u32 0, .int .u32 0, .int .u32 0, .int .u32 0] 24 (0, 0)))
  replace HV := Lib.hid (HV.out.kept (hb.alloc hb.size (.cells #[.int .u32 0, .int .u32 0, .int .u32 0, .int .u32 0] 24 (0, 0))))
  clear hb a0 a1 a2 a3
  obtain ⟨a0, a1, a2, a3, _⟩ := cells4 (HK.out.at 0 rfl)
  obtain ⟨b0, b1, b2, b3, _⟩ := cells4 (HK.out.at 1 rfl)
  go_wp2_with fail
  refine (C4.out _ (HT.out.oldn HK.out)).mono ?_
  rintro e w4 ⟨A4, n4, c4, B4, m4, d4, rfl, hb⟩
  replace HK := Lib.hid ((HK.out.after hb).more (.cells #[.int .i64 0, .slice A4 n4 c4, .slice B4 m4 d4] 38 (0, 0)))
  replace HV := Lib.hid (HV.out.kept (hb.alloc hb.size (.cells #[.int .i64 0, .slice A4 n4 c4, .slice B4 m4 d4] 38 (0, 0))))
  clear hb a0 a1 a2 a3 b0 b1 b2 b3
  go_wp2_with fail
  replace HK := Lib.hid HK.out.drew
  replace HV := Lib.hid (HV.out.kept (Below.refl _ _).drew)
  go_region_held3 (fun W => W.cell? ⟨w.heap.size, 0, none⟩ = some (.int .u32 1) ∧ W.cell? ⟨w.heap.size, 1, none⟩ = some (.int .u32 2) ∧ W.cell? ⟨w.heap.size, 2, none⟩ = some (.int .u32 3) ∧ W.cell? ⟨w.heap.size, 3, none⟩ = some (.int .u32 4) ∧ W.cell? ⟨w.heap.size + 1, 0, none⟩ = some (.int .u32 5) ∧ W.cell? ⟨w.heap.size + 1, 1, none⟩ = some (.int .u32 0) ∧ W.cell? ⟨w.heap.size + 1, 2, none⟩ = some (.int .u32 0) ∧ W.cell? ⟨w.heap.size + 1, 3, none⟩ = some (.int .u32 0) ∧ W.cell? ⟨w1.heap.size, 0, none⟩ = some (.int .u32 p0) ∧ W.cell? ⟨w1.heap.size, 1, none⟩ = some (.int .u32 p1) ∧ W.cell? ⟨w1.heap.size, 2, none⟩ = some (.int .u32 p2) ∧ W.cell? ⟨w1.heap.size, 3, none⟩ = some (.int .u32 p3) ∧ W.cell? ⟨w2.heap.size, 0, none⟩ = some (.int .i64 0) ∧ W.cell? ⟨w2.heap.size, 1, none⟩ = some (.slice A n c) ∧ W.cell? ⟨w2.heap.size, 2, none⟩ = some (.slice B 0 d))
    (exact allQ HK.out)
    (first
      | (go_at_call 17; with_reducible refine (C5.out _ _ HV.out (HT.out.oldn HK.out)).mono ?_; rintro e w' ⟨rfl, hb⟩; replace HK := Lib.hid (HK.out.after hb); replace HV := Lib.hid (HV.out.kept hb); clear hb)
      | (go_at_call 17; with_reducible refine (C6.out _ _ HV.out (HT.out.oldn HK.out)).mono ?_; rintro e w' ⟨rfl, hb⟩; replace HK := Lib.hid (HK.out.after hb); replace HV := Lib.hid (HV.out.kept hb); clear hb)
      | (go_at_call 25; with_reducible refine (C7.out _).mono ?_; rintro e w' ⟨rfl, hb⟩; replace HK := Lib.hid (HK.out.after hb); replace HV := Lib.hid (HV.out.kept hb); clear hb)
      | (go_at_call 24; with_reducible refine (C8.out _).mono ?_; rintro e w' ⟨rfl, hb⟩; replace HK := Lib.hid (HK.out.after hb); replace HV := Lib.hid (HV.out.kept hb); clear hb))
  all_goals
    go_wp2_with fail
    go_ret
    exact ⟨rfl, HK.out.be.plain⟩
end Go.Proofs.YtfbefenagnlnfaaDoor
