/- The law DigestChain: for every two digests it returns true, and both read as before. The tables that it reads hold what the program's text lays (the card ties them). No other condition. -/
import Derived.Test.YtaogndcaabnboaaDoorDigN
namespace Go.Proofs.YtaogndcaabnboaaDoor.digestChain
open Go.ChangeShapes Go.WideShapes Go.ChangeAt Go.RowKit
open Go.ChangeMaps (open_string shut_string)
set_option linter.unusedVariables false

theorem allC {w W : World} {n5 n6 n7 : Nat} {a0 a1 a2 a3 b0 b1 b2 b3 x0 x1 x2 x3 x4 x5 x6 x7 y0 y1 y2 y3 y4 y5 y6 y7 : Int} (h : Kl w W [(w.heap.size, .cells #[.int .u32 a0, .int .u32 a1, .int .u32 a2, .int .u32 a3] 29 (0, 0)), (w.heap.size + 1, .cells #[.int .u32 b0, .int .u32 b1, .int .u32 b2, .int .u32 b3] 29 (0, 0)), (n5, .cells #[.int .u32 x0, .int .u32 x1, .int .u32 x2, .int .u32 x3, .int .u32 x4, .int .u32 x5, .int .u32 x6, .int .u32 x7] 23 (0, 0)), (n6, .cells #[.int .u32 y0, .int .u32 y1, .int .u32 y2, .int .u32 y3, .int .u32 y4, .int .u32 y5, .int .u32 y6, .int .u32 y7] 23 (0, 0)), (n7, .cells #[.int .u32 x0, .int .u32 x1, .int .u32 x2, .int .u32 x3, .int .u32 x4, .int .u32 x5, .int .u32 x6, .int .u32 x7] 23 (0, 0))]) : Kl w W [(w.heap.size, .cells #[.int .u32 a0, .int .u32 a1, .int .u32 a2, .int .u32 a3] 29 (0, 0)), (w.heap.size + 1, .cells #[.int .u32 b0, .int .u32 b1, .int .u32 b2, .int .u32 b3] 29 (0, 0)), (n5, .cells #[.int .u32 x0, .int .u32 x1, .int .u32 x2, .int .u32 x3, .int .u32 x4, .int .u32 x5, .int .u32 x6, .int .u32 x7] 23 (0, 0)), (n6, .cells #[.int .u32 y0, .int .u32 y1, .int .u32 y2, .int .u32 y3, .int .u32 y4, .int .u32 y5, .int .u32 y6, .int .u32 y7] 23 (0, 0)), (n7, .cells #[.int .u32 x0, .int .u32 x1, .int .u32 x2, .int .u32 x3, .int .u32 x4, .int .u32 x5, .int .u32 x6, .int .u32 x7] 23 (0, 0))] ∧ W.cell? ⟨w.heap.size, 0, none⟩ = some (.int .u32 a0) ∧ W.cell? ⟨w.heap.size, 1, none⟩ = some (.int .u32 a1) ∧ W.cell? ⟨w.heap.size, 2, none⟩ = some (.int .u32 a2) ∧ W.cell? ⟨w.heap.size, 3, none⟩ = some (.int .u32 a3) ∧ W.cell? ⟨w.heap.size + 1, 0, none⟩ = some (.int .u32 b0) ∧ W.cell? ⟨w.heap.size + 1, 1, none⟩ = some (.int .u32 b1) ∧ W.cell? ⟨w.heap.size + 1, 2, none⟩ = some (.int .u32 b2) ∧ W.cell? ⟨w.heap.size + 1, 3, none⟩ = some (.int .u32 b3) ∧ W.cell? ⟨n5, 0, none⟩ = some (.int .u32 x0) ∧ W.cell? ⟨n5, 1, none⟩ = some (.int .u32 x1) ∧ W.cell? ⟨n5, 2, none⟩ = some (.int .u32 x2) ∧ W.cell? ⟨n5, 3, none⟩ = some (.int .u32 x3) ∧ W.cell? ⟨n5, 4, none⟩ = some (.int .u32 x4) ∧ W.cell? ⟨n5, 5, none⟩ = some (.int .u32 x5) ∧ W.cell? ⟨n5, 6, none⟩ = some (.int .u32 x6) ∧ W.cell? ⟨n5, 7, none⟩ = some (.int .u32 x7) ∧ W.cell? ⟨n6, 0, none⟩ = some (.int .u32 y0) ∧ W.cell? ⟨n6, 1, none⟩ = some (.int .u32 y1) ∧ W.cell? ⟨n6, 2, none⟩ = some (.int .u32 y2) ∧ W.cell? ⟨n6, 3, none⟩ = some (.int .u32 y3) ∧ W.cell? ⟨n6, 4, none⟩ = some (.int .u32 y4) ∧ W.cell? ⟨n6, 5, none⟩ = some (.int .u32 y5) ∧ W.cell? ⟨n6, 6, none⟩ = some (.int .u32 y6) ∧ W.cell? ⟨n6, 7, none⟩ = some (.int .u32 y7) ∧ W.cell? ⟨n7, 0, none⟩ = some (.int .u32 x0) ∧ W.cell? ⟨n7, 1, none⟩ = some (.int .u32 x1) ∧ W.cell? ⟨n7, 2, none⟩ = some (.int .u32 x2) ∧ W.cell? ⟨n7, 3, none⟩ = some (.int .u32 x3) ∧ W.cell? ⟨n7, 4, none⟩ = some (.int .u32 x4) ∧ W.cell? ⟨n7, 5, none⟩ = some (.int .u32 x5) ∧ W.cell? ⟨n7, 6, none⟩ = some (.int .u32 x6) ∧ W.cell? ⟨n7, 7, none⟩ = some (.int .u32 x7) := by
  obtain ⟨p0, p1, p2, p3, _⟩ := cells4 (h.at 0 rfl)
  obtain ⟨q0, q1, q2, q3, _⟩ := cells4 (h.at 1 rfl)
  obtain ⟨r0, r1, r2, r3, r4, r5, r6, r7, _⟩ := cells8 (h.at 2 rfl)
  obtain ⟨s0, s1, s2, s3, s4, s5, s6, s7, _⟩ := cells8 (h.at 3 rfl)
  obtain ⟨t0, t1, t2, t3, t4, t5, t6, t7, _⟩ := cells8 (h.at 4 rfl)
  exact ⟨h, p0, p1, p2, p3, q0, q1, q2, q3, r0, r1, r2, r3, r4, r5, r6, r7, s0, s1, s2, s3, s4, s5, s6, s7, t0, t1, t2, t3, t4, t5, t6, t7⟩
theorem z8 : Ok8 [2, 0, 0, 0, 0, 0, 0, 0] := mk8 ⟨by omega, by omega⟩ ⟨by omega, by omega⟩ ⟨by omega, by omega⟩ ⟨by omega, by omega⟩ ⟨by omega, by omega⟩ ⟨by omega, by omega⟩ ⟨by omega, by omega⟩ ⟨by omega, by omega⟩
set_option maxRecDepth 100000 in
set_option maxHeartbeats 2000000 in
theorem walk (g0 : Ws) (o0 : Ok4 g0) (g1 : Ws) (o1 : Ok4 g1) (w : World) (ht : Tabs w) :
    Calls Tryd.prog 10 #[ag g0, ag g1] w fun e w' => e = .returned (.bool true) ∧ Below w.heap.size w w' := by
  have ox := taken_ok z8 o0
  have oy := taken_ok ox o1
  have c4 := fun w ht => pair_code g0 g1 w o0 o1 ht
  unfold pair at c4
  obtain ⟨x0, x1, x2, x3, x4, x5, x6, x7, ex, px0, px1, px2, px3, px4, px5, px6, px7⟩ := ok8 ox
  rw [ex] at ox oy c4
  obtain ⟨y0, y1, y2, y3, y4, y5, y6, y7, ey, _⟩ := ok8 oy
  obtain ⟨a0, a1, a2, a3, rfl, _⟩ := ok4 o0
  obtain ⟨b0, b1, b2, b3, rfl, pb0, pb1, pb2, pb3⟩ := ok4 o1
  have hun : unmix [y0, y1, y2, y3, y4, y5, y6, y7] = [xr x0 b0, xr x1 b1, xr x2 b2, xr x3 b3, x4, x5, x6, x7] := by
    rw [← ey]
    exact unmix_mix (mk8 (xr_W px0 pb0) (xr_W px1 pb1) (xr_W px2 pb2) (xr_W px3 pb3) px4 px5 px6 px7)
  rw [ey] at oy c4
  have c1 := fun w ht => took_ex w z8 o0 ex ht
  have c2 := fun w ht => took_ex w ox o1 ey ht
  have c3 := fun w ht => unmix_code _ w oy ht
  rw [hun] at c3
  have r0 := xr_xr x0 b0 px0 pb0
  have r1 := xr_xr x1 b1 px1 pb1
  have r2 := xr_xr x2 b2 px2 pb2
  have r3 := xr_xr x3 b3 px3 pb3
  obtain ⟨z0, hz0⟩ : ∃ z, xr x0 b0 = z := ⟨_, rfl⟩
  obtain ⟨z1, hz1⟩ : ∃ z, xr x1 b1 = z := ⟨_, rfl⟩
  obtain ⟨z2, hz2⟩ : ∃ z, xr x2 b2 = z := ⟨_, rfl⟩
  obtain ⟨z3, hz3⟩ : ∃ z, xr x3 b3 = z := ⟨_, rfl⟩
  rw [hz0] at r0 c3
  rw [hz1] at r1 c3
  rw [hz2] at r2 c3
  rw [hz3] at r3 c3
  have c4 := fun w ht => show Calls Tryd.prog 18 #[ag [a0, a1, a2, a3], ag [b0, b1, b2, b3]] w (fun e w' => e = .returned (ag [y0, y1, y2, y3]) ∧ Below w.heap.size w w') from c4 w ht
  simp only [ag8, ag4] at c3 c4
  rw [ag4, ag4]
  have r0 : bits .xor .u32 z0 b0 = x0 := r0
  have r1 : bits .xor .u32 z1 b1 = x1 := r1
  have r2 : bits .xor .u32 z2 b2 = x2 := r2
  have r3 : bits .xor .u32 z3 b3 = x3 := r3
  have C1 := Lib.hid c1
  have C2 := Lib.hid c2
  have C3 := Lib.hid c3
  have C4 := Lib.hid c4
  have R0 := Lib.hid r0
  have R1' := Lib.hid r1
  have R2 := Lib.hid r2
  have R3 := Lib.hid r3
  have HT := Lib.hid ht
  have HK := Lib.hid (((Kl.nil w).more (.cells #[.int .u32 a0, .int .u32 a1, .int .u32 a2, .int .u32 a3] 29 (0, 0))).more (.cells #[.int .u32 b0, .int .u32 b1, .int .u32 b2, .int .u32 b3] 29 (0, 0)))
  rw [World.size_alloc] at HK
  have q4 := eq4s
  have q8 := eq8s
  have s0 := same_self
  clear c1 c2 c3 c4 r0 r1 r2 r3 hz0 hz1 hz2 hz3 hun ht ox oy ex ey o0 o1 px0 px1 px2 px3 px4 px5 px6 px7 pb0 pb1 pb2 pb3
  go_enter Tryd.func10, Tryd.ntmps10
  go_wp2_with fail
  refine (C1.out _ (HT.out.below HK.out.be)).mono ?_
  rintro e w1 ⟨rfl, hb⟩
  replace HK := Lib.hid (HK.out.after hb)
  clear hb
  obtain ⟨j0, j1, j2, j3, _⟩ := cells4 (HK.out.at 1 rfl)
  have l1 : w.heap.size + 1 < w1.heap.size := HK.out.lt 1 rfl
  replace HK := Lib.hid (HK.out.more (.cells #[.int .u32 x0, .int .u32 x1, .int .u32 x2, .int .u32 x3, .int .u32 x4, .int .u32 x5, .int .u32 x6, .int .u32 x7] 23 (0, 0)))
  go_wp2_with fail
  refine (C2.out _ (HT.out.below HK.out.be)).mono ?_
  rintro e w2 ⟨rfl, hb⟩
  replace HK := Lib.hid (HK.out.after hb)
  replace HK := Lib.hid (HK.out.more (.cells #[.int .u32 y0, .int .u32 y1, .int .u32 y2, .int .u32 y3, .int .u32 y4, .int .u32 y5, .int .u32 y6, .int .u32 y7] 23 (0, 0)))
  clear hb j0 j1 j2 j3 l1
  go_wp2_with fail
  refine (C3.out _ (HT.out.below HK.out.be)).mono ?_
  rintro e w3 ⟨rfl, hb⟩
  replace HK := Lib.hid (HK.out.after hb)
  clear hb
  obtain ⟨j0, j1, j2, j3, _⟩ := cells4 (HK.out.at 1 rfl)
  have l1 : w.heap.size + 1 < w3.heap.size := HK.out.lt 1 rfl
  go_wp2_with fail
  refine wp_loop_rounds 5 ?_
  rw [rounds_succ]
  go_wp2_with fail
  go_region
  rw [R0.out]
  go_wp2_with fail
  rw [rounds_succ]
  go_wp2_with fail
  go_region
  rw [R1'.out]
  go_wp2_with fail
  rw [rounds_succ]
  go_wp2_with fail
  go_region
  rw [R2.out]
  go_wp2_with fail
  rw [rounds_succ]
  go_wp2_with fail
  go_region
  rw [R3.out]
  go_wp2_with fail
  rw [rounds_succ]
  go_wp2_with fail
  replace HK := Lib.hid (HK.out.more (.cells #[.int .u32 x0, .int .u32 x1, .int .u32 x2, .int .u32 x3, .int .u32 x4, .int .u32 x5, .int .u32 x6, .int .u32 x7] 23 (0, 0))).drew.drew.drew.drew.drew
  clear j0 j1 j2 j3 l1
  go_region_held3 (fun W => Kl w W [(w.heap.size, .cells #[.int .u32 a0, .int .u32 a1, .int .u32 a2, .int .u32 a3] 29 (0, 0)), (w.heap.size + 1, .cells #[.int .u32 b0, .int .u32 b1, .int .u32 b2, .int .u32 b3] 29 (0, 0)), (w1.heap.size, .cells #[.int .u32 x0, .int .u32 x1, .int .u32 x2, .int .u32 x3, .int .u32 x4, .int .u32 x5, .int .u32 x6, .int .u32 x7] 23 (0, 0)), (w2.heap.size, .cells #[.int .u32 y0, .int .u32 y1, .int .u32 y2, .int .u32 y3, .int .u32 y4, .int .u32 y5, .int .u32 y6, .int .u32 y7] 23 (0, 0)), (w3.heap.size, .cells #[.int .u32 x0, .int .u32 x1, .int .u32 x2, .int .u32 x3, .int .u32 x4, .int .u32 x5, .int .u32 x6, .int .u32 x7] 23 (0, 0))] ∧ W.cell? ⟨w.heap.size, 0, none⟩ = some (.int .u32 a0) ∧ W.cell? ⟨w.heap.size, 1, none⟩ = some (.int .u32 a1) ∧ W.cell? ⟨w.heap.size, 2, none⟩ = some (.int .u32 a2) ∧ W.cell? ⟨w.heap.size, 3, none⟩ = some (.int .u32 a3) ∧ W.cell? ⟨w.heap.size + 1, 0, none⟩ = some (.int .u32 b0) ∧ W.cell? ⟨w.heap.size + 1, 1, none⟩ = some (.int .u32 b1) ∧ W.cell? ⟨w.heap.size + 1, 2, none⟩ = some (.int .u32 b2) ∧ W.cell? ⟨w.heap.size + 1, 3, none⟩ = some (.int .u32 b3) ∧ W.cell? ⟨w1.heap.size, 0, none⟩ = some (.int .u32 x0) ∧ W.cell? ⟨w1.heap.size, 1, none⟩ = some (.int .u32 x1) ∧ W.cell? ⟨w1.heap.size, 2, none⟩ = some (.int .u32 x2) ∧ W.cell? ⟨w1.heap.size, 3, none⟩ = some (.int .u32 x3) ∧ W.cell? ⟨w1.heap.size, 4, none⟩ = some (.int .u32 x4) ∧ W.cell? ⟨w1.heap.size, 5, none⟩ = some (.int .u32 x5) ∧ W.cell? ⟨w1.heap.size, 6, none⟩ = some (.int .u32 x6) ∧ W.cell? ⟨w1.heap.size, 7, none⟩ = some (.int .u32 x7) ∧ W.cell? ⟨w2.heap.size, 0, none⟩ = some (.int .u32 y0) ∧ W.cell? ⟨w2.heap.size, 1, none⟩ = some (.int .u32 y1) ∧ W.cell? ⟨w2.heap.size, 2, none⟩ = some (.int .u32 y2) ∧ W.cell? ⟨w2.heap.size, 3, none⟩ = some (.int .u32 y3) ∧ W.cell? ⟨w2.heap.size, 4, none⟩ = some (.int .u32 y4) ∧ W.cell? ⟨w2.heap.size, 5, none⟩ = some (.int .u32 y5) ∧ W.cell? ⟨w2.heap.size, 6, none⟩ = some (.int .u32 y6) ∧ W.cell? ⟨w2.heap.size, 7, none⟩ = some (.int .u32 y7) ∧ W.cell? ⟨w3.heap.size, 0, none⟩ = some (.int .u32 x0) ∧ W.cell? ⟨w3.heap.size, 1, none⟩ = some (.int .u32 x1) ∧ W.cell? ⟨w3.heap.size, 2, none⟩ = some (.int .u32 x2) ∧ W.cell? ⟨w3.heap.size, 3, none⟩ = some (.int .u32 x3) ∧ W.cell? ⟨w3.heap.size, 4, none⟩ = some (.int .u32 x4) ∧ W.cell? ⟨w3.heap.size, 5, none⟩ = some (.int .u32 x5) ∧ W.cell? ⟨w3.heap.size, 6, none⟩ = some (.int .u32 x6) ∧ W.cell? ⟨w3.heap.size, 7, none⟩ = some (.int .u32 x7))
    (exact allC HK.out)
    (first
      | (go_at_call 11; with_reducible refine (awake_any _ (HT.out.below HK.out.be)).mono ?_; rintro e w' ⟨rfl, hb⟩; replace HK := Lib.hid (HK.out.after hb); clear hb)
      | (go_at_call 18; with_reducible refine (C4.out _ (HT.out.below HK.out.be)).mono ?_; rintro e w' ⟨rfl, hb⟩; replace HK := Lib.hid (HK.out.after hb); clear hb))
  all_goals
    go_wp2_with fail
    go_ret
    exact ⟨rfl, HK.out.be⟩

theorem contract (H : Type) (enc : TypeId × Value → H) (W : World) (base : Nat) (args : Array Value) (ds gs : List (DataW H)) (before : List MemPlace)
    (hval : ∀ (j : Nat) t v, Tryd.f10.params[j]? = some t → args[j]? = some v → Value.okWide Tryd.prog W .any base t v)
    (hW : DataW.Whole enc Tryd.prog Tryd.f10.params.toList Rows.digestChainSpec.vars false W args.toList ds gs before) (hL : laidMetH Tryd.prog Rows.digestChainRow.laid W) :
    Calls Tryd.prog 10 args W fun e W' => ∃ v, e = .returned v ∧ Rows.digestChainSpec.post enc Tryd.prog Tryd.f10 false true false false W args v W' := by
  have hW' := hW
  obtain ⟨p, q, hA0, hV, rfl, hfz, hnd⟩ := hW
  have hA : DataW.TrodAll enc Tryd.prog W 0 (fun _ => true) true Tryd.f10.params.toList args.toList ds p := hA0
  rw [Tryd.params10] at hA hval
  obtain ⟨v0, vs0, d0, ds0, p0, q0, hargs, rfl, rfl, h0, r0⟩ := trodAll_cons hA
  obtain ⟨v1, vs1, d1, ds1, p1, q1, rfl, rfl, rfl, h1, r1⟩ := trodAll_cons r0
  obtain ⟨rfl, rfl, rfl⟩ := trodAll_nil r1
  obtain rfl : args = #[v0, v1] := by cases args; simp_all
  obtain ⟨rfl, rfl⟩ := trodVars_none hV
  obtain ⟨x00, x01, x02, x03, rfl, rfl, rfl, w0, o0⟩ := open_dg (hval 0 29 v0 rfl rfl) h0
  obtain ⟨x10, x11, x12, x13, rfl, rfl, rfl, w1, o1⟩ := open_dg (hval 1 29 v1 rfl rfl) h1
  clear hA0
  simp only [List.append_nil] at hW'
  refine (walk _ o0 _ o1 W (tabs_of (l := Rows.digestChainRow.laid) hL (by first | exact .head _ | exact .tail _ (.head _) | exact .tail _ (.tail _ (.head _))) (by first | exact .head _ | exact .tail _ (.head _) | exact .tail _ (.tail _ (.head _))) (by first | exact .head _ | exact .tail _ (.head _) | exact .tail _ (.tail _ (.head _))))).mono fun e W' ⟨he, hg⟩ => ?_
  subst he
  exact ⟨_, rfl, _, _, _, [], [], [], hW', trodAll_mk1 (shut_bool Tryd.underlying4 _), (trodAll_cons_mk (shut_dg w0) (trodAll_cons_mk (shut_dg w1) trodAll_mk0)), rfl, hg.frame _, fun h => by cases h⟩

theorem laid_met (os : Os) : laidMet Tryd.prog Rows.digestChainRow.laid ((laidWorld os).forCall (fun _ _ => 0) ⟨#[], #[.agg #[.int .u32 0, .int .u32 0, .int .u32 0, .int .u32 0], .agg #[.int .u32 0, .int .u32 0, .int .u32 0, .int .u32 0]], []⟩).memory :=
  laidMet_of_run' 8 (by kernel_rfl) (by kernel_rfl)
theorem reads (os : Os) {H : Type} (enc : TypeId × Value → H) : ∃ places, DataW.whole enc Tryd.prog ((laidWorld os).forCall (fun _ _ => 0) ⟨#[], #[.agg #[.int .u32 0, .int .u32 0, .int .u32 0, .int .u32 0], .agg #[.int .u32 0, .int .u32 0, .int .u32 0, .int .u32 0]], []⟩).memory Tryd.f10.params.toList Rows.digestChainSpec.vars false (#[.agg #[.int .u32 0, .int .u32 0, .int .u32 0, .int .u32 0], .agg #[.int .u32 0, .int .u32 0, .int .u32 0, .int .u32 0]] : Array Value).toList 8 = some ([.agg [.lit (.int .u32 0), .lit (.int .u32 0), .lit (.int .u32 0), .lit (.int .u32 0)], .agg [.lit (.int .u32 0), .lit (.int .u32 0), .lit (.int .u32 0), .lit (.int .u32 0)]], [], places) :=
  ⟨[], by kernel_rfl⟩

set_option maxRecDepth 100000 in
theorem lifted (os : Os) (started : os.Started) (H : Type) (enc : TypeId × Value → H) (F : Stop.Interp) :
    ReturnsInHanded {} Tryd.checked os 10 .any ((OpenSpec.ofChange Rows.digestChainSpec).preRow enc Tryd.prog Tryd.f10 Rows.digestChainRow.domain false Rows.digestChainRow.laid) (((OpenSpec.ofChange Rows.digestChainSpec).at F).post enc Tryd.prog Tryd.f10 false true false false) := by
  obtain ⟨places, hx⟩ := reads os enc
  refine returnsInHanded_of_row (C := Tryd.checked) (s := OpenSpec.ofChange Rows.digestChainSpec) own started (by kernel_rfl) Tryd.func10
    (witness_row_at (enc := enc) (C := Tryd.checked) false (laidWorld os) #[.agg #[.int .u32 0, .int .u32 0, .int .u32 0, .int .u32 0], .agg #[.int .u32 0, .int .u32 0, .int .u32 0, .int .u32 0]] rfl (by kernel_rfl) (by kernel_rfl) (by kernel_rfl)
      (OpenSpec.preRow_of_cond 8 hx (by kernel_rfl) (fun k hk => by cases hk) (by kernel_rfl) (laid_met os))) ?_
  intro W base args ds gs before hval hW _ _ _ hL _ _
  exact contract H enc W base args ds gs before hval hW hL

theorem said : Rows.DigestChainSaid :=
  OpenClaim.holds_of_cond 10 Tryd.f10 rfl rfl rfl rfl rfl rfl rfl ⟨rfl, rfl, rfl, rfl, rfl⟩ rfl rfl rfl rfl rfl (by kernel_rfl) Tryd.func10 (by kernel_rfl)
    (of_decide_eq_true (by kernel_rfl)) (by unfold Func.isWrapper; first | (rw [if_pos (by decide +kernel)]; kernel_rfl) | (rw [if_neg (by decide +kernel)]; exact ⟨rfl, rfl⟩))
    (fun os started H enc _ F => by rw [OpenClaim.pre_eq_preRow]; exact lifted os started H enc F)

theorem plain (f : FuncId) (fn : Func) (hf : Tryd.pinned.checked.prog.funcNamed "seedcorn/seedcornlaw03.DigestChain" = some f) (hfn : Tryd.pinned.checked.prog.funcs[f]? = some fn) :
    false = Tryd.pinned.checked.prog.looks [] ∧ ∀ (j : Nat) t, fn.params[j]? = some t → Tryd.pinned.checked.prog.wantsStandIn t = false := by
  obtain rfl : f = 10 := Option.some.inj ((show Tryd.prog.funcNamed "seedcorn/seedcornlaw03.DigestChain" = some 10 by kernel_rfl).symm.trans hf) |>.symm
  obtain rfl : fn = Tryd.f10 := (Option.some.inj (Tryd.func10.symm.trans hfn)).symm
  refine ⟨by kernel_rfl, fun j t ht => ?_⟩
  rw [Tryd.params10] at ht
  have hm := Array.mem_of_getElem? ht
  obtain rfl : t = 29 := by simpa using hm
  exact (show Tryd.prog.wantsStandIn 29 = false by kernel_rfl)

/-- The card. -/
theorem card : Rows.DigestChainCardSaid :=
  Claim7.holds_tied_plain_at .later [] _ _ _ _ said (fun _ h => by cases h) (by kernel_rfl) (fun _ h => by cases h) digestChain_row_tie rfl ⟨rfl, rfl⟩ (by kernel_rfl) rfl plain (by kernel_rfl)
end Go.Proofs.YtaogndcaabnboaaDoor.digestChain
