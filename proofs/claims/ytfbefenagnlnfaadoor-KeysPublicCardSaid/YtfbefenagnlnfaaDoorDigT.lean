/- Taking a block in: the contracts of digest.take, front, the law's took, the reference's take. -/
import Derived.Test.YtfbefenagnlnfaaDoorDigR
set_option linter.unusedVariables false
namespace Go.Proofs.YtfbefenagnlnfaaDoor
open Go.RowKit

theorem idxU (a b c d : Int) : (∀ w : World, (Instr.index 23 (.agg #[.int .u32 a, .int .u32 b, .int .u32 c, .int .u32 d]) (.int .i64 0)).run Tryd.prog w = .ok (.int .u32 a) w) ∧ (∀ w : World, (Instr.index 23 (.agg #[.int .u32 a, .int .u32 b, .int .u32 c, .int .u32 d]) (.int .i64 1)).run Tryd.prog w = .ok (.int .u32 b) w) ∧
    (∀ w : World, (Instr.index 23 (.agg #[.int .u32 a, .int .u32 b, .int .u32 c, .int .u32 d]) (.int .i64 2)).run Tryd.prog w = .ok (.int .u32 c) w) ∧ (∀ w : World, (Instr.index 23 (.agg #[.int .u32 a, .int .u32 b, .int .u32 c, .int .u32 d]) (.int .i64 3)).run Tryd.prog w = .ok (.int .u32 d) w) :=
  ⟨fun _ => by kernel_rfl, fun _ => by kernel_rfl, fun _ => by kernel_rfl, fun _ => by kernel_rfl⟩

theorem ag8 (a0 a1 a2 a3 b0 b1 b2 b3 : Int) : ag [a0, a1, a2, a3, b0, b1, b2, b3] = .agg #[.int .u32 a0, .int .u32 a1, .int .u32 a2, .int .u32 a3, .int .u32 b0, .int .u32 b1, .int .u32 b2, .int .u32 b3] := rfl
theorem ag4 (a0 a1 a2 a3 : Int) : ag [a0, a1, a2, a3] = .agg #[.int .u32 a0, .int .u32 a1, .int .u32 a2, .int .u32 a3] := rfl

theorem below_row {w wr : World} {n : Nat} (h : Below w.heap.size w wr) (hn : w.heap.size ≤ n) (v0 v1 v2 v3 v4 v5 v6 v7 : Value) : Below w.heap.size w ((((((((wr.setCell ⟨n, 0, none⟩ v0).setCell ⟨n, 1, none⟩ v1).setCell ⟨n, 2, none⟩ v2).setCell ⟨n, 3, none⟩ v3).setCell ⟨n, 4, none⟩ v4).setCell ⟨n, 5, none⟩ v5).setCell ⟨n, 6, none⟩ v6).setCell ⟨n, 7, none⟩ v7) := by
  have hp : ∀ i, w.heap.size ≤ (⟨n, i, none⟩ : Addr).block := fun i => hn
  exact (((((((h.setCell (hp 0) _).setCell (hp 1) _).setCell (hp 2) _).setCell (hp 3) _).setCell (hp 4) _).setCell (hp 5) _).setCell (hp 6) _).setCell (hp 7) _
theorem third (w : World) (a b c : Obj) : (((w.alloc a).alloc b).alloc c).heap[w.heap.size + 1 + 1]? = some c := by
  have := heap_alloc_new ((w.alloc a).alloc b) c
  simpa using this
theorem third_after {w wn : World} {a b c : Obj} (h : Below (((w.alloc a).alloc b).alloc c).heap.size (((w.alloc a).alloc b).alloc c) wn) : wn.heap[w.heap.size + 1 + 1]? = some c := by
  rw [h.block _ (by simp), third]
theorem below_after {w wn : World} {a b c : Obj} (h : Below (((w.alloc a).alloc b).alloc c).heap.size (((w.alloc a).alloc b).alloc c) wn) : Below w.heap.size w wn :=
  (below3 w a b c).trans (h.mono (by simp; omega))

set_option maxHeartbeats 4000000 in
theorem take_code (l b : Ws) (w : World) (hl : Ok8 l) (hb : Ok4 b) (ht : Tabs w) :
    Calls Tryd.prog 68 #[ag l, ag b] w fun e w' => e = .returned (ag (taken l b)) ∧ Below w.heap.size w w' := by
  have hok := taken_ok hl hb
  obtain ⟨x0, x1, x2, x3, y0, y1, y2, y3, rfl, p0, p1, p2, p3, q0, q1, q2, q3⟩ := ok8 hl
  obtain ⟨c0, c1, c2, c3, rfl, h0, h1, h2, h3⟩ := ok4 hb
  have hm := fun w ht => mix_code [xr x0 c0, xr x1 c1, xr x2 c2, xr x3 c3, y0, y1, y2, y3] w (mk8 (xr_W p0 h0) (xr_W p1 h1) (xr_W p2 h2) (xr_W p3 h3) q0 q1 q2 q3) ht
  have e : taken [x0, x1, x2, x3, y0, y1, y2, y3] [c0, c1, c2, c3] = mix [xr x0 c0, xr x1 c1, xr x2 c2, xr x3 c3, y0, y1, y2, y3] := rfl
  rw [← e] at hm
  obtain ⟨t0, t1, t2, t3, u0, u1, u2, u3, ht8, _⟩ := ok8 hok
  rw [ht8] at hm ⊢
  rw [ag8, ag8] at hm
  rw [ag8, ag8, ag4]
  have HM := Lib.hid hm
  have HT := Lib.hid ht
  clear hm e ht8 hok hl hb ht
  obtain ⟨i0, i1, i2, i3⟩ := idxU c0 c1 c2 c3
  go_enter Tryd.func68, Tryd.ntmps68
  go_wp2_with fail
  refine wp_loop_rounds 5 ?_
  iterate 5 (rw [rounds_succ]; go_wp2_with fail)
  refine (HM.out _ (HT.out.below (below3 _ _ _ _))).mono ?_
  rintro e w1 ⟨rfl, b1⟩
  have HR := Lib.hid (third_after b1)
  have HB := Lib.hid (below_after b1)
  obtain ⟨r0, r1, r2, r3, r4, r5, r6, r7, s0, s1, s2, s3, s4, s5, s6, s7⟩ := cells8 HR.out
  clear b1
  go_wp2_with fail
  refine bodyPost_ret (v := .agg #[.int .u32 t0, .int .u32 t1, .int .u32 t2, .int .u32 t3, .int .u32 u0, .int .u32 u1, .int .u32 u2, .int .u32 u3]) (by
    obtain ⟨k0, k1, k2, k3, k4, k5, k6, k7, _⟩ := cells8 (row8 HR.out (.int .u32 t0) (.int .u32 t1) (.int .u32 t2) (.int .u32 t3) (.int .u32 u0) (.int .u32 u1) (.int .u32 u2) (.int .u32 u3))
    simp [results, go_sem, k0, k1, k2, k3, k4, k5, k6, k7]) rfl ⟨rfl, ?_⟩
  exact below_row HB.out (by omega) _ _ _ _ _ _ _ _

set_option maxHeartbeats 4000000 in
theorem front_code (l : Ws) (w : World) (hl : Ok8 l) :
    Calls Tryd.prog 65 #[ag l] w fun e w' => e = .returned (ag (l.take 4)) ∧ Below w.heap.size w w' := by
  obtain ⟨x0, x1, x2, x3, y0, y1, y2, y3, rfl, p0, p1, p2, p3, q0, q1, q2, q3⟩ := ok8 hl
  show Calls Tryd.prog 65 #[ag [x0, x1, x2, x3, y0, y1, y2, y3]] w fun e w' => e = .returned (ag [x0, x1, x2, x3]) ∧ Below w.heap.size w w'
  rw [ag8, ag4]
  go_enter Tryd.func65, Tryd.ntmps65
  go_wp2_with fail
  exact bodyPost_ret (v := .agg #[.int .u32 x0, .int .u32 x1, .int .u32 x2, .int .u32 x3]) (by simp [results, go_sem]) rfl ⟨rfl, below2 _ _ _⟩


set_option maxHeartbeats 4000000 in
theorem take_ref (l b : Ws) (w : World) (hl : Ok8 l) (hb : Ok4 b) :
    Calls Tryd.prog 62 #[ag l, ag b] w fun e w' => e = .returned (ag (taken l b)) ∧ Below w.heap.size w w' := by
  have hok := taken_ok hl hb
  obtain ⟨x0, x1, x2, x3, y0, y1, y2, y3, rfl, p0, p1, p2, p3, q0, q1, q2, q3⟩ := ok8 hl
  obtain ⟨c0, c1, c2, c3, rfl, h0, h1, h2, h3⟩ := ok4 hb
  have hm := fun w => mix_ref [xr x0 c0, xr x1 c1, xr x2 c2, xr x3 c3, y0, y1, y2, y3] w (mk8 (xr_W p0 h0) (xr_W p1 h1) (xr_W p2 h2) (xr_W p3 h3) q0 q1 q2 q3)
  have e : taken [x0, x1, x2, x3, y0, y1, y2, y3] [c0, c1, c2, c3] = mix [xr x0 c0, xr x1 c1, xr x2 c2, xr x3 c3, y0, y1, y2, y3] := rfl
  rw [← e] at hm
  obtain ⟨t0, t1, t2, t3, u0, u1, u2, u3, ht8, _⟩ := ok8 hok
  rw [ht8] at hm ⊢
  rw [ag8, ag8] at hm
  rw [ag8, ag8, ag4]
  have HM := Lib.hid hm
  clear hm e ht8 hok hl hb
  obtain ⟨i0, i1, i2, i3⟩ := idxU c0 c1 c2 c3
  go_enter Tryd.func62, Tryd.ntmps62
  go_wp2_with fail
  refine wp_loop_rounds 5 ?_
  rw [rounds_succ]
  go_wp2_with fail
  go_region
  go_wp2_with fail
  rw [rounds_succ]
  go_wp2_with fail
  go_region
  go_wp2_with fail
  rw [rounds_succ]
  go_wp2_with fail
  go_region
  go_wp2_with fail
  rw [rounds_succ]
  go_wp2_with fail
  go_region
  go_wp2_with fail
  rw [rounds_succ]
  go_wp2_with fail
  refine (HM.out _).mono ?_
  rintro e w1 ⟨rfl, b0⟩
  have b1 := ((Below.refl _ _).drew.drew.drew.drew).trans b0
  have HR := Lib.hid (third_after b1)
  have HB := Lib.hid (below_after b1)
  obtain ⟨r0, r1, r2, r3, r4, r5, r6, r7, s0, s1, s2, s3, s4, s5, s6, s7⟩ := cells8 HR.out
  clear b1 b0
  go_wp2_with fail
  refine bodyPost_ret (v := .agg #[.int .u32 t0, .int .u32 t1, .int .u32 t2, .int .u32 t3, .int .u32 u0, .int .u32 u1, .int .u32 u2, .int .u32 u3]) (by
    obtain ⟨k0, k1, k2, k3, k4, k5, k6, k7, _⟩ := cells8 (row8 HR.out (.int .u32 t0) (.int .u32 t1) (.int .u32 t2) (.int .u32 t3) (.int .u32 u0) (.int .u32 u1) (.int .u32 u2) (.int .u32 u3))
    simp [results, go_sem, k0, k1, k2, k3, k4, k5, k6, k7]) rfl ⟨rfl, ?_⟩
  exact below_row HB.out (by omega) _ _ _ _ _ _ _ _

end Go.Proofs.YtfbefenagnlnfaaDoor
