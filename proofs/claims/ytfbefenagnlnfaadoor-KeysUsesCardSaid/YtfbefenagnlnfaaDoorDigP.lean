/- The digest of a pair: the contracts of digest.Pair and of the reference's. -/
import Derived.Test.YtfbefenagnlnfaaDoorDigT
set_option linter.unusedVariables false
namespace Go.Proofs.YtfbefenagnlnfaaDoor
open Go.RowKit

/-- Both digests, and the room for the answer, stand in a call's first three blocks. -/
structure P3 (w W : World) (x0 x1 x2 x3 y0 y1 y2 y3 : Int) : Prop where
  ha : W.heap[w.heap.size]? = some (.cells #[.int .u32 x0, .int .u32 x1, .int .u32 x2, .int .u32 x3] 24 (0, 0))
  hb : W.heap[w.heap.size + 1]? = some (.cells #[.int .u32 y0, .int .u32 y1, .int .u32 y2, .int .u32 y3] 24 (0, 0))
  hz : W.heap[w.heap.size + 1 + 1]? = some (.cells #[.int .u32 0, .int .u32 0, .int .u32 0, .int .u32 0] 24 (0, 0))
  be : Below w.heap.size w W
  sz : w.heap.size + 3 ≤ W.heap.size
theorem P3.after {w W W' : World} {x0 x1 x2 x3 y0 y1 y2 y3 : Int} (h : P3 w W x0 x1 x2 x3 y0 y1 y2 y3) (hb : Below W.heap.size W W') : P3 w W' x0 x1 x2 x3 y0 y1 y2 y3 := by
  have hs := h.sz
  have hs2 := hb.size
  exact ⟨by rw [hb.block _ (by omega)]; exact h.ha, by rw [hb.block _ (by omega)]; exact h.hb, by rw [hb.block _ (by omega)]; exact h.hz, h.be.trans (hb.mono (by omega)), by omega⟩
theorem P3.new (w : World) (x0 x1 x2 x3 y0 y1 y2 y3 : Int) : P3 w (((w.alloc (.cells #[.int .u32 x0, .int .u32 x1, .int .u32 x2, .int .u32 x3] 24)).alloc (.cells #[.int .u32 y0, .int .u32 y1, .int .u32 y2, .int .u32 y3] 24)).alloc (.cells #[.int .u32 0, .int .u32 0, .int .u32 0, .int .u32 0] 24)) x0 x1 x2 x3 y0 y1 y2 y3 := by
  refine ⟨?_, ?_, third _ _ _ _, below3 _ _ _ _, by simp⟩
  · rw [Below.heap_alloc _ _ _ (by simp; omega), Below.heap_alloc _ _ _ (by simp), heap_alloc_new]
  · rw [Below.heap_alloc _ _ _ (by simp)]
    have := heap_alloc_new (w.alloc (.cells #[.int .u32 x0, .int .u32 x1, .int .u32 x2, .int .u32 x3] 24)) (.cells #[.int .u32 y0, .int .u32 y1, .int .u32 y2, .int .u32 y3] 24)
    simpa using this
theorem P3.drew {w W : World} {x0 x1 x2 x3 y0 y1 y2 y3 : Int} (h : P3 w W x0 x1 x2 x3 y0 y1 y2 y3) : P3 w W.drew x0 x1 x2 x3 y0 y1 y2 y3 := ⟨h.ha, h.hb, h.hz, h.be.drew, h.sz⟩
theorem cells4 {w : World} {b : Nat} {t : TypeId} {v0 v1 v2 v3 : Value} (h : w.heap[b]? = some (.cells #[v0, v1, v2, v3] t (0, 0))) :
    w.cell? ⟨b, 0, none⟩ = some v0 ∧ w.cell? ⟨b, 1, none⟩ = some v1 ∧ w.cell? ⟨b, 2, none⟩ = some v2 ∧ w.cell? ⟨b, 3, none⟩ = some v3 ∧
    w.frozen? ⟨b, 0, none⟩ = false ∧ w.frozen? ⟨b, 1, none⟩ = false ∧ w.frozen? ⟨b, 2, none⟩ = false ∧ w.frozen? ⟨b, 3, none⟩ = false := by
  simp [World.cell?, World.frozen?, h]
theorem P3.cells {w W : World} {x0 x1 x2 x3 y0 y1 y2 y3 : Int} (h : P3 w W x0 x1 x2 x3 y0 y1 y2 y3) :
    (W.cell? ⟨w.heap.size, 0, none⟩ = some (.int .u32 x0) ∧ W.cell? ⟨w.heap.size, 1, none⟩ = some (.int .u32 x1) ∧ W.cell? ⟨w.heap.size, 2, none⟩ = some (.int .u32 x2) ∧ W.cell? ⟨w.heap.size, 3, none⟩ = some (.int .u32 x3)) ∧
    (W.cell? ⟨w.heap.size + 1, 0, none⟩ = some (.int .u32 y0) ∧ W.cell? ⟨w.heap.size + 1, 1, none⟩ = some (.int .u32 y1) ∧ W.cell? ⟨w.heap.size + 1, 2, none⟩ = some (.int .u32 y2) ∧ W.cell? ⟨w.heap.size + 1, 3, none⟩ = some (.int .u32 y3)) ∧
    (W.cell? ⟨w.heap.size + 1 + 1, 0, none⟩ = some (.int .u32 0) ∧ W.cell? ⟨w.heap.size + 1 + 1, 1, none⟩ = some (.int .u32 0) ∧ W.cell? ⟨w.heap.size + 1 + 1, 2, none⟩ = some (.int .u32 0) ∧ W.cell? ⟨w.heap.size + 1 + 1, 3, none⟩ = some (.int .u32 0)) ∧
    (W.frozen? ⟨w.heap.size + 1 + 1, 0, none⟩ = false ∧ W.frozen? ⟨w.heap.size + 1 + 1, 1, none⟩ = false ∧ W.frozen? ⟨w.heap.size + 1 + 1, 2, none⟩ = false ∧ W.frozen? ⟨w.heap.size + 1 + 1, 3, none⟩ = false) := by
  obtain ⟨a0, a1, a2, a3, _⟩ := cells4 h.ha
  obtain ⟨b0, b1, b2, b3, _⟩ := cells4 h.hb
  obtain ⟨c0, c1, c2, c3, d0, d1, d2, d3⟩ := cells4 h.hz
  exact ⟨⟨a0, a1, a2, a3⟩, ⟨b0, b1, b2, b3⟩, ⟨c0, c1, c2, c3⟩, ⟨d0, d1, d2, d3⟩⟩

theorem row4 {w : World} {b : Nat} {t : TypeId} {u0 u1 u2 u3 : Value} (h : w.heap[b]? = some (.cells #[u0, u1, u2, u3] t (0, 0))) (v0 v1 v2 v3 : Value) :
    ((((w.setCell ⟨b, 0, none⟩ v0).setCell ⟨b, 1, none⟩ v1).setCell ⟨b, 2, none⟩ v2).setCell ⟨b, 3, none⟩ v3).heap[b]? = some (.cells #[v0, v1, v2, v3] t (0, 0)) := by
  have e0 := heap_setCell_same w b 0 _ t v0 h
  have e1 := heap_setCell_same _ b 1 _ t v1 e0
  have e2 := heap_setCell_same _ b 2 _ t v2 e1
  have e3 := heap_setCell_same _ b 3 _ t v3 e2
  rw [e3]
  simp
theorem below_row4 {w wr : World} {n : Nat} (h : Below w.heap.size w wr) (hn : w.heap.size ≤ n) (v0 v1 v2 v3 : Value) : Below w.heap.size w ((((wr.setCell ⟨n, 0, none⟩ v0).setCell ⟨n, 1, none⟩ v1).setCell ⟨n, 2, none⟩ v2).setCell ⟨n, 3, none⟩ v3) := by
  have hp : ∀ i, w.heap.size ≤ (⟨n, i, none⟩ : Addr).block := fun i => hn
  exact (((h.setCell (hp 0) _).setCell (hp 1) _).setCell (hp 2) _).setCell (hp 3) _

theorem take_ex {x0 x1 x2 x3 y0 y1 y2 y3 c0 c1 c2 c3 z0 z1 z2 z3 z4 z5 z6 z7 : Int} (w : World) (h : Ok8 [x0, x1, x2, x3, y0, y1, y2, y3]) (k : Ok4 [c0, c1, c2, c3]) (hz : taken [x0, x1, x2, x3, y0, y1, y2, y3] [c0, c1, c2, c3] = [z0, z1, z2, z3, z4, z5, z6, z7]) (ht : Tabs w) :
    Calls Tryd.prog 68 #[.agg #[.int .u32 x0, .int .u32 x1, .int .u32 x2, .int .u32 x3, .int .u32 y0, .int .u32 y1, .int .u32 y2, .int .u32 y3], .agg #[.int .u32 c0, .int .u32 c1, .int .u32 c2, .int .u32 c3]] w fun e w' => e = .returned (.agg #[.int .u32 z0, .int .u32 z1, .int .u32 z2, .int .u32 z3, .int .u32 z4, .int .u32 z5, .int .u32 z6, .int .u32 z7]) ∧ Below w.heap.size w w' := by
  have := take_code _ _ w h k ht
  rw [hz] at this
  exact this
theorem taker_ex {x0 x1 x2 x3 y0 y1 y2 y3 c0 c1 c2 c3 z0 z1 z2 z3 z4 z5 z6 z7 : Int} (w : World) (h : Ok8 [x0, x1, x2, x3, y0, y1, y2, y3]) (k : Ok4 [c0, c1, c2, c3]) (hz : taken [x0, x1, x2, x3, y0, y1, y2, y3] [c0, c1, c2, c3] = [z0, z1, z2, z3, z4, z5, z6, z7]) :
    Calls Tryd.prog 62 #[.agg #[.int .u32 x0, .int .u32 x1, .int .u32 x2, .int .u32 x3, .int .u32 y0, .int .u32 y1, .int .u32 y2, .int .u32 y3], .agg #[.int .u32 c0, .int .u32 c1, .int .u32 c2, .int .u32 c3]] w fun e w' => e = .returned (.agg #[.int .u32 z0, .int .u32 z1, .int .u32 z2, .int .u32 z3, .int .u32 z4, .int .u32 z5, .int .u32 z6, .int .u32 z7]) ∧ Below w.heap.size w w' := by
  have := take_ref _ _ w h k
  rw [hz] at this
  exact this
theorem front_ex {x0 x1 x2 x3 y0 y1 y2 y3 : Int} (w : World) (h : Ok8 [x0, x1, x2, x3, y0, y1, y2, y3]) :
    Calls Tryd.prog 65 #[.agg #[.int .u32 x0, .int .u32 x1, .int .u32 x2, .int .u32 x3, .int .u32 y0, .int .u32 y1, .int .u32 y2, .int .u32 y3]] w fun e w' => e = .returned (.agg #[.int .u32 x0, .int .u32 x1, .int .u32 x2, .int .u32 x3]) ∧ Below w.heap.size w w' := front_code _ w h

set_option maxRecDepth 100000 in
set_option maxHeartbeats 2000000 in
theorem pair_code (a b : Ws) (w : World) (ha : Ok4 a) (hb : Ok4 b) (ht : Tabs w) :
    Calls Tryd.prog 50 #[ag a, ag b] w fun e w' => e = .returned (ag (pair a b)) ∧ Below w.heap.size w w' := by
  have z8 : Ok8 [2, 0, 0, 0, 0, 0, 0, 0] := mk8 ⟨by omega, by omega⟩ ⟨by omega, by omega⟩ ⟨by omega, by omega⟩ ⟨by omega, by omega⟩ ⟨by omega, by omega⟩ ⟨by omega, by omega⟩ ⟨by omega, by omega⟩ ⟨by omega, by omega⟩
  have h1 := taken_ok z8 ha
  have h2 := taken_ok h1 hb
  unfold pair
  obtain ⟨u0, u1, u2, u3, u4, u5, u6, u7, hU, _⟩ := ok8 h2
  obtain ⟨v0, v1, v2, v3, v4, v5, v6, v7, hV, _⟩ := ok8 h1
  rw [hU] at h2 ⊢
  rw [hV] at h1 hU
  obtain ⟨x0, x1, x2, x3, rfl, _⟩ := ok4 ha
  obtain ⟨y0, y1, y2, y3, rfl, _⟩ := ok4 hb
  show Calls Tryd.prog 50 #[ag [x0, x1, x2, x3], ag [y0, y1, y2, y3]] w fun e w' => e = .returned (ag [u0, u1, u2, u3]) ∧ Below w.heap.size w w'
  rw [ag4, ag4, ag4]
  have HZ := Lib.hid z8
  have H1 := Lib.hid h1
  have H2 := Lib.hid h2
  have HA := Lib.hid ha
  have HB := Lib.hid hb
  have HU := Lib.hid hU
  have HV := Lib.hid hV
  have HT := Lib.hid ht
  have HP := Lib.hid (P3.new w x0 x1 x2 x3 y0 y1 y2 y3).drew
  clear ht hU hV h1 h2 z8 ha hb
  go_enter Tryd.func50, Tryd.ntmps50
  go_wp2_with fail
  go_region_law (first
    | (go_simp; go_at_call 68; with_reducible refine (take_ex _ HZ.out HA.out HV.out (HT.out.below HP.out.be)).mono ?_; rintro e w' ⟨rfl, hb⟩; replace HP := Lib.hid (HP.out.after hb); clear hb; obtain ⟨⟨a0, a1, a2, a3⟩, ⟨b0, b1, b2, b3⟩, ⟨c0, c1, c2, c3⟩, ⟨d0, d1, d2, d3⟩⟩ := HP.out.cells)
    | (go_simp; go_at_call 68; with_reducible refine (take_ex _ H1.out HB.out HU.out (HT.out.below HP.out.be)).mono ?_; rintro e w' ⟨rfl, hb⟩; replace HP := Lib.hid (HP.out.after hb); clear hb; obtain ⟨⟨a0, a1, a2, a3⟩, ⟨b0, b1, b2, b3⟩, ⟨c0, c1, c2, c3⟩, ⟨d0, d1, d2, d3⟩⟩ := HP.out.cells)
    | (go_simp; go_at_call 65; with_reducible refine (front_ex _ H2.out).mono ?_; rintro e w' ⟨rfl, hb⟩; replace HP := Lib.hid (HP.out.after hb); clear hb; obtain ⟨⟨a0, a1, a2, a3⟩, ⟨b0, b1, b2, b3⟩, ⟨c0, c1, c2, c3⟩, ⟨d0, d1, d2, d3⟩⟩ := HP.out.cells))
  all_goals
    have HR := Lib.hid (row4 HP.out.hz (.int .u32 u0) (.int .u32 u1) (.int .u32 u2) (.int .u32 u3))
    go_wp2_with fail
    exact bodyPost_ret (v := .agg #[.int .u32 u0, .int .u32 u1, .int .u32 u2, .int .u32 u3]) (by
      obtain ⟨k0, k1, k2, k3, _⟩ := cells4 HR.out
      simp [results, go_sem, k0, k1, k2, k3]) rfl ⟨rfl, below_row4 HP.out.be (by omega) _ _ _ _⟩
end Go.Proofs.YtfbefenagnlnfaaDoor
