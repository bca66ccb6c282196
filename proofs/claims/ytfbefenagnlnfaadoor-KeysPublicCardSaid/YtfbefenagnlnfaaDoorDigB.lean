/- Package digest: the contracts of Mix and Unmix. -/
import Derived.Test.YtfbefenagnlnfaaDoorDigA
set_option linter.unusedVariables false
namespace Go.Proofs.YtfbefenagnlnfaaDoor
open Go.RowKit

theorem cells8 {w : World} {b : Nat} {t : TypeId} {v0 v1 v2 v3 v4 v5 v6 v7 : Value} (h : w.heap[b]? = some (.cells #[v0, v1, v2, v3, v4, v5, v6, v7] t (0, 0))) :
    w.cell? ⟨b, 0, none⟩ = some v0 ∧ w.cell? ⟨b, 1, none⟩ = some v1 ∧ w.cell? ⟨b, 2, none⟩ = some v2 ∧ w.cell? ⟨b, 3, none⟩ = some v3 ∧ w.cell? ⟨b, 4, none⟩ = some v4 ∧ w.cell? ⟨b, 5, none⟩ = some v5 ∧ w.cell? ⟨b, 6, none⟩ = some v6 ∧ w.cell? ⟨b, 7, none⟩ = some v7 ∧
    w.frozen? ⟨b, 0, none⟩ = false ∧ w.frozen? ⟨b, 1, none⟩ = false ∧ w.frozen? ⟨b, 2, none⟩ = false ∧ w.frozen? ⟨b, 3, none⟩ = false ∧ w.frozen? ⟨b, 4, none⟩ = false ∧ w.frozen? ⟨b, 5, none⟩ = false ∧ w.frozen? ⟨b, 6, none⟩ = false ∧ w.frozen? ⟨b, 7, none⟩ = false := by
  simp [World.cell?, World.frozen?, h]

theorem idx4 (a b c d : Int) : (∀ w : World, (Instr.index 108 (.agg #[.int .i64 a, .int .i64 b, .int .i64 c, .int .i64 d]) (.int .i64 0)).run Tryd.prog w = .ok (.int .i64 a) w) ∧ (∀ w : World, (Instr.index 108 (.agg #[.int .i64 a, .int .i64 b, .int .i64 c, .int .i64 d]) (.int .i64 1)).run Tryd.prog w = .ok (.int .i64 b) w) ∧
    (∀ w : World, (Instr.index 108 (.agg #[.int .i64 a, .int .i64 b, .int .i64 c, .int .i64 d]) (.int .i64 2)).run Tryd.prog w = .ok (.int .i64 c) w) ∧ (∀ w : World, (Instr.index 108 (.agg #[.int .i64 a, .int .i64 b, .int .i64 c, .int .i64 d]) (.int .i64 3)).run Tryd.prog w = .ok (.int .i64 d) w) :=
  ⟨fun _ => by kernel_rfl, fun _ => by kernel_rfl, fun _ => by kernel_rfl, fun _ => by kernel_rfl⟩

theorem turns4 {w : World} (h : Tabs w) : w.cell? ⟨1, 0, none⟩ = some (.int .i64 7) ∧ w.cell? ⟨1, 1, none⟩ = some (.int .i64 9) ∧ w.cell? ⟨1, 2, none⟩ = some (.int .i64 13) ∧ w.cell? ⟨1, 3, none⟩ = some (.int .i64 18) :=
  ⟨h.trn_cell 0, h.trn_cell 1, h.trn_cell 2, h.trn_cell 3⟩

/-- A call's own copy of a state stands in its first block, zeros in the second one. -/
structure St (w wr : World) (l : Ws) : Prop where
  hs : wr.heap[w.heap.size]? = some (.cells (l.map (Value.int .u32)).toArray 89 (0, 0))
  hr : wr.heap[w.heap.size + 1]? = some (.cells #[.int .u32 0, .int .u32 0, .int .u32 0, .int .u32 0, .int .u32 0, .int .u32 0, .int .u32 0, .int .u32 0] 89 (0, 0))
  hb : Below w.heap.size w wr
theorem St.set {w wr : World} {l : Ws} (h : St w wr l) (i : Nat) (v : Int) : St w (wr.setCell ⟨w.heap.size, i, none⟩ (.int .u32 v)) (l.set i v) := by
  refine ⟨?_, ?_, h.hb.setCell (Nat.le_refl _) _⟩
  · rw [heap_setCell_same wr _ i _ _ _ h.hs]
    simp [List.map_set]
  · rw [heap_setCell_other _ _ _ _ (by simp)]
    exact h.hr
theorem St.drew {w wr : World} {l : Ws} (h : St w wr l) : St w wr.drew l := ⟨h.hs, h.hr, h.hb.drew⟩
theorem St.size {w wr : World} {l : Ws} (h : St w wr l) : w.heap.size + 2 ≤ wr.heap.size := by
  have h1 := h.hr
  rcases Nat.lt_or_ge (w.heap.size + 1) wr.heap.size with h' | h'
  · omega
  · rw [Array.getElem?_eq_none h'] at h1; simp at h1
theorem St.after {w wr wn : World} {l : Ws} (h : St w wr l) (hb : Below wr.heap.size wr wn) : St w wn l := by
  have hs := h.size
  exact ⟨by rw [hb.block _ (by omega)]; exact h.hs, by rw [hb.block _ (by omega)]; exact h.hr, h.hb.trans (hb.mono (by omega))⟩
theorem St.cells {w wr : World} {x0 x1 x2 x3 y0 y1 y2 y3 : Int} (h : St w wr [x0, x1, x2, x3, y0, y1, y2, y3]) :
    wr.cell? ⟨w.heap.size, 0, none⟩ = some (.int .u32 x0) ∧ wr.cell? ⟨w.heap.size, 1, none⟩ = some (.int .u32 x1) ∧ wr.cell? ⟨w.heap.size, 2, none⟩ = some (.int .u32 x2) ∧ wr.cell? ⟨w.heap.size, 3, none⟩ = some (.int .u32 x3) ∧
    wr.cell? ⟨w.heap.size, 4, none⟩ = some (.int .u32 y0) ∧ wr.cell? ⟨w.heap.size, 5, none⟩ = some (.int .u32 y1) ∧ wr.cell? ⟨w.heap.size, 6, none⟩ = some (.int .u32 y2) ∧ wr.cell? ⟨w.heap.size, 7, none⟩ = some (.int .u32 y3) ∧
    wr.frozen? ⟨w.heap.size, 0, none⟩ = false ∧ wr.frozen? ⟨w.heap.size, 1, none⟩ = false ∧ wr.frozen? ⟨w.heap.size, 2, none⟩ = false ∧ wr.frozen? ⟨w.heap.size, 3, none⟩ = false ∧ wr.frozen? ⟨w.heap.size, 4, none⟩ = false ∧ wr.frozen? ⟨w.heap.size, 5, none⟩ = false ∧ wr.frozen? ⟨w.heap.size, 6, none⟩ = false ∧ wr.frozen? ⟨w.heap.size, 7, none⟩ = false :=
  cells8 h.hs
theorem St.new (w : World) (l : Ws) : St w ((w.alloc (.cells (l.map (Value.int .u32)).toArray 89)).alloc (.cells #[.int .u32 0, .int .u32 0, .int .u32 0, .int .u32 0, .int .u32 0, .int .u32 0, .int .u32 0, .int .u32 0] 89)) l := by
  refine ⟨?_, ?_, below2 w _ _⟩
  · rw [Below.heap_alloc _ _ _ (by simp), heap_alloc_new]
  · have := heap_alloc_new (w.alloc (.cells (l.map (Value.int .u32)).toArray 89)) (.cells #[.int .u32 0, .int .u32 0, .int .u32 0, .int .u32 0, .int .u32 0, .int .u32 0, .int .u32 0, .int .u32 0] 89)
    simpa using this

theorem lt32 {x : Int} (h : W32 x) : x < 4294967296 := by have := h.2; omega

theorem gr_sm (x k : Int) : (x + 2654435769 * (k + 1)) % 4294967296 = sm x (gr k) := by unfold sm gr; omega
theorem rnd_eq {k e d0 d1 d2 d3 f0 f1 f2 f3 x0 x1 x2 x3 y0 y1 y2 y3 : Int} (he : (x0 + 2654435769 * (k + 1)) % 4294967296 = e) (h0 : (e + y0) % 4294967296 = d0) (h1 : (x1 + y1) % 4294967296 = d1) (h2 : (x2 + y2) % 4294967296 = d2) (h3 : (x3 + y3) % 4294967296 = d3)
    (g0 : tn (bits .xor .u32 y0 d0) 7 = f0) (g1 : tn (bits .xor .u32 y1 d1) 9 = f1) (g2 : tn (bits .xor .u32 y2 d2) 13 = f2) (g3 : tn (bits .xor .u32 y3 d3) 18 = f3) : rnd k [x0, x1, x2, x3, y0, y1, y2, y3] = [d3, f0, f1, f2, f3, d0, d1, d2] := by
  rw [gr_sm] at he
  subst g0 g1 g2 g3 h0 h1 h2 h3 he
  rfl
theorem below_row8 {w wr : World} (h : Below w.heap.size w wr) (v0 v1 v2 v3 v4 v5 v6 v7 : Value) : Below w.heap.size w ((((((((wr.setCell ⟨w.heap.size + 1, 0, none⟩ v0).setCell ⟨w.heap.size + 1, 1, none⟩ v1).setCell ⟨w.heap.size + 1, 2, none⟩ v2).setCell ⟨w.heap.size + 1, 3, none⟩ v3).setCell ⟨w.heap.size + 1, 4, none⟩ v4).setCell ⟨w.heap.size + 1, 5, none⟩ v5).setCell ⟨w.heap.size + 1, 6, none⟩ v6).setCell ⟨w.heap.size + 1, 7, none⟩ v7) := by
  have hp : ∀ i, w.heap.size ≤ (⟨w.heap.size + 1, i, none⟩ : Addr).block := fun i => Nat.le_succ _
  exact (((((((h.setCell (hp 0) _).setCell (hp 1) _).setCell (hp 2) _).setCell (hp 3) _).setCell (hp 4) _).setCell (hp 5) _).setCell (hp 6) _).setCell (hp 7) _
theorem row8 {w : World} {b : Nat} {t : TypeId} {u0 u1 u2 u3 u4 u5 u6 u7 : Value} (h : w.heap[b]? = some (.cells #[u0, u1, u2, u3, u4, u5, u6, u7] t (0, 0))) (v0 v1 v2 v3 v4 v5 v6 v7 : Value) :
    ((((((((w.setCell ⟨b, 0, none⟩ v0).setCell ⟨b, 1, none⟩ v1).setCell ⟨b, 2, none⟩ v2).setCell ⟨b, 3, none⟩ v3).setCell ⟨b, 4, none⟩ v4).setCell ⟨b, 5, none⟩ v5).setCell ⟨b, 6, none⟩ v6).setCell ⟨b, 7, none⟩ v7).heap[b]? = some (.cells #[v0, v1, v2, v3, v4, v5, v6, v7] t (0, 0)) := by
  have e0 := heap_setCell_same w b 0 _ t v0 h
  have e1 := heap_setCell_same _ b 1 _ t v1 e0
  have e2 := heap_setCell_same _ b 2 _ t v2 e1
  have e3 := heap_setCell_same _ b 3 _ t v3 e2
  have e4 := heap_setCell_same _ b 4 _ t v4 e3
  have e5 := heap_setCell_same _ b 5 _ t v5 e4
  have e6 := heap_setCell_same _ b 6 _ t v6 e5
  have e7 := heap_setCell_same _ b 7 _ t v7 e6
  rw [e7]
  simp
-- WALKS
set_option maxRecDepth 100000 in
set_option maxHeartbeats 8000000 in
theorem mix_code (l : Ws) (w : World) (hl : Ok8 l) (ht : Tabs w) :
    Calls Tryd.prog 77 #[ag l] w fun e w' => e = .returned (ag (mix l)) ∧ Below w.heap.size w w' := by
  obtain ⟨T, hT⟩ : ∃ T, mix l = T := ⟨_, rfl⟩
  rw [hT]
  have HFIN : Hid (mixN 8 l = T) := hT
  have S0 := Lib.hid (St.new w l)
  have HOK := Lib.hid (mixN_ok hl)
  have HM0 : Hid (mixN 0 l = l) := rfl
  have HMS := Lib.hid (fun n => show mixN (n + 1) l = rnd n (mixN n l) from rfl)
  obtain ⟨a0, a1, a2, a3, b0, b1, b2, b3, hl8, _⟩ := ok8 hl
  have HL8 := Lib.hid hl8
  have e : ag l = .agg #[.int .u32 a0, .int .u32 a1, .int .u32 a2, .int .u32 a3, .int .u32 b0, .int .u32 b1, .int .u32 b2, .int .u32 b3] := by rw [hl8]; rfl
  rw [e]
  have HT := Lib.hid ht
  clear ht hT hl e hl8
  go_enter Tryd.func77, Tryd.ntmps77
  go_wp2
  go_loopw [6] (fun si wr => ∃ k : Nat, k ≤ 8 ∧ si = .int .u32 k ∧ Hid (St w wr (mixN k l))) (fun si _ => 8 - (intOf si).toNat)
  case atStart =>
    have S1 := S0.out
    rw [HL8.out] at S1
    refine ⟨0, Nat.zero_le _, rfl, ?_⟩
    show St _ _ _
    rw [HM0.out, HL8.out]
    exact S1
  case round =>
    obtain ⟨k, hk, rfl, HM⟩ := hrel
    obtain ⟨x0, x1, x2, x3, y0, y1, y2, y3, hm8, p0, p1, p2, p3, q0, q1, q2, q3⟩ := ok8 (HOK.out k)
    have S := HM.out
    rw [hm8] at S
    obtain ⟨c0, c1, c2, c3, c4, c5, c6, c7, z0, z1, z2, z3, z4, z5, z6, z7⟩ := S.cells
    by_cases hlt : k < 8
    · have HM8 := Lib.hid hm8
      obtain ⟨t0, t1, t2, t3⟩ := turns4 (HT.out.below S.hb)
      have lg : w.heap.size ≠ 1 := Nat.ne_of_gt HT.out.at.lt
      obtain ⟨i0, i1, i2, i3⟩ := idx4 7 9 13 18
      have HS := Lib.hid S
      clear hm8 S
      go_wp2
      refine wp_loop_rounds 5 ?_
      rw [rounds_succ]
      go_wp2
      clear t0 t1 t2 t3 lg
      obtain ⟨e, he⟩ : ∃ z : Int, (x0 + 2654435769 * ((k : Int) + 1)) % 4294967296 = z := ⟨_, rfl⟩
      rw [he]
      obtain ⟨w1, hw1⟩ : ∃ z, (wr.setCell ⟨w.heap.size, 0, none⟩ (.int .u32 e)) = z := ⟨_, rfl⟩
      have S1 := (HS.out.set 0 e)
      rw [hw1] at S1 ⊢
      have S1 : St w w1 [e, x1, x2, x3, y0, y1, y2, y3] := S1
      have Ee := Lib.hid he
      clear c0 c1 c2 c3 c4 c5 c6 c7 z0 z1 z2 z3 z4 z5 z6 z7 HS hw1 he
      obtain ⟨c0, c1, c2, c3, c4, c5, c6, c7, z0, z1, z2, z3, z4, z5, z6, z7⟩ := S1.cells
      have HS1 := Lib.hid S1
      clear S1
      go_region
      obtain ⟨d0, hd0⟩ : ∃ z : Int, (e + y0) % 4294967296 = z := ⟨_, rfl⟩
      rw [hd0]
      obtain ⟨w2, hw2⟩ : ∃ z, (w1.setCell ⟨w.heap.size, 0, none⟩ (.int .u32 d0)).drew = z := ⟨_, rfl⟩
      have S2 := (HS1.out.set 0 d0).drew
      rw [hw2] at S2 ⊢
      have S2 : St w w2 [d0, x1, x2, x3, y0, y1, y2, y3] := S2
      have Ed0 := Lib.hid hd0
      clear c0 c1 c2 c3 c4 c5 c6 c7 z0 z1 z2 z3 z4 z5 z6 z7 HS1 hw2 hd0
      obtain ⟨c0, c1, c2, c3, c4, c5, c6, c7, z0, z1, z2, z3, z4, z5, z6, z7⟩ := S2.cells
      have HS2 := Lib.hid S2
      clear S2
      have hX : W32 (bits .xor .u32 y0 d0) := xr_W q0 (Ed0.out ▸ sm_W e y0)
      have X0 := hX.1
      have X1 := lt32 hX
      clear hX
      have kw : IntKind.i64.wrap 4 = 4 := by decide
      go_wp2_with fail
      go_still_tail 12, (by kernel_rfl)
      still_call (turn_any _ _ _ X0 X1)
      refine wpStill_nil ?_
      change wpList _ _ _ _ _ w2.drew
      go_wp2_with fail
      clear X0 X1 kw
      obtain ⟨f0, hf0⟩ : ∃ z : Int, tn (bits .xor .u32 y0 d0) 7 = z := ⟨_, rfl⟩
      rw [hf0]
      obtain ⟨w3, hw3⟩ : ∃ z, (w2.setCell ⟨w.heap.size, 4, none⟩ (.int .u32 f0)).drew = z := ⟨_, rfl⟩
      have S3 := (HS2.out.set 4 f0).drew
      rw [hw3] at S3 ⊢
      have S3 : St w w3 [d0, x1, x2, x3, f0, y1, y2, y3] := S3
      have Ef0 := Lib.hid hf0
      clear c0 c1 c2 c3 c4 c5 c6 c7 z0 z1 z2 z3 z4 z5 z6 z7 HS2 hw3 hf0
      obtain ⟨c0, c1, c2, c3, c4, c5, c6, c7, z0, z1, z2, z3, z4, z5, z6, z7⟩ := S3.cells
      have HS3 := Lib.hid S3
      clear S3
      rw [rounds_succ]
      go_wp2
      go_region
      obtain ⟨d1, hd1⟩ : ∃ z : Int, (x1 + y1) % 4294967296 = z := ⟨_, rfl⟩
      rw [hd1]
      obtain ⟨w4, hw4⟩ : ∃ z, (w3.setCell ⟨w.heap.size, 1, none⟩ (.int .u32 d1)).drew = z := ⟨_, rfl⟩
      have S4 := (HS3.out.set 1 d1).drew
      rw [hw4] at S4 ⊢
      have S4 : St w w4 [d0, d1, x2, x3, f0, y1, y2, y3] := S4
      have Ed1 := Lib.hid hd1
      clear c0 c1 c2 c3 c4 c5 c6 c7 z0 z1 z2 z3 z4 z5 z6 z7 HS3 hw4 hd1
      obtain ⟨c0, c1, c2, c3, c4, c5, c6, c7, z0, z1, z2, z3, z4, z5, z6, z7⟩ := S4.cells
      have HS4 := Lib.hid S4
      clear S4
      have hX : W32 (bits .xor .u32 y1 d1) := xr_W q1 (Ed1.out ▸ sm_W x1 y1)
      have X0 := hX.1
      have X1 := lt32 hX
      clear hX
      have kw : IntKind.i64.wrap 5 = 5 := by decide
      go_wp2_with fail
      go_still_tail 12, (by kernel_rfl)
      still_call (turn_any _ _ _ X0 X1)
      refine wpStill_nil ?_
      change wpList _ _ _ _ _ w4.drew
      go_wp2_with fail
      clear X0 X1 kw
      obtain ⟨f1, hf1⟩ : ∃ z : Int, tn (bits .xor .u32 y1 d1) 9 = z := ⟨_, rfl⟩
      rw [hf1]
      obtain ⟨w5, hw5⟩ : ∃ z, (w4.setCell ⟨w.heap.size, 5, none⟩ (.int .u32 f1)).drew = z := ⟨_, rfl⟩
      have S5 := (HS4.out.set 5 f1).drew
      rw [hw5] at S5 ⊢
      have S5 : St w w5 [d0, d1, x2, x3, f0, f1, y2, y3] := S5
      have Ef1 := Lib.hid hf1
      clear c0 c1 c2 c3 c4 c5 c6 c7 z0 z1 z2 z3 z4 z5 z6 z7 HS4 hw5 hf1
      obtain ⟨c0, c1, c2, c3, c4, c5, c6, c7, z0, z1, z2, z3, z4, z5, z6, z7⟩ := S5.cells
      have HS5 := Lib.hid S5
      clear S5
      rw [rounds_succ]
      go_wp2
      go_region
      obtain ⟨d2, hd2⟩ : ∃ z : Int, (x2 + y2) % 4294967296 = z := ⟨_, rfl⟩
      rw [hd2]
      obtain ⟨w6, hw6⟩ : ∃ z, (w5.setCell ⟨w.heap.size, 2, none⟩ (.int .u32 d2)).drew = z := ⟨_, rfl⟩
      have S6 := (HS5.out.set 2 d2).drew
      rw [hw6] at S6 ⊢
      have S6 : St w w6 [d0, d1, d2, x3, f0, f1, y2, y3] := S6
      have Ed2 := Lib.hid hd2
      clear c0 c1 c2 c3 c4 c5 c6 c7 z0 z1 z2 z3 z4 z5 z6 z7 HS5 hw6 hd2
      obtain ⟨c0, c1, c2, c3, c4, c5, c6, c7, z0, z1, z2, z3, z4, z5, z6, z7⟩ := S6.cells
      have HS6 := Lib.hid S6
      clear S6
      have hX : W32 (bits .xor .u32 y2 d2) := xr_W q2 (Ed2.out ▸ sm_W x2 y2)
      have X0 := hX.1
      have X1 := lt32 hX
      clear hX
      have kw : IntKind.i64.wrap 6 = 6 := by decide
      go_wp2_with fail
      go_still_tail 12, (by kernel_rfl)
      still_call (turn_any _ _ _ X0 X1)
      refine wpStill_nil ?_
      change wpList _ _ _ _ _ w6.drew
      go_wp2_with fail
      clear X0 X1 kw
      obtain ⟨f2, hf2⟩ : ∃ z : Int, tn (bits .xor .u32 y2 d2) 13 = z := ⟨_, rfl⟩
      rw [hf2]
      obtain ⟨w7, hw7⟩ : ∃ z, (w6.setCell ⟨w.heap.size, 6, none⟩ (.int .u32 f2)).drew = z := ⟨_, rfl⟩
      have S7 := (HS6.out.set 6 f2).drew
      rw [hw7] at S7 ⊢
      have S7 : St w w7 [d0, d1, d2, x3, f0, f1, f2, y3] := S7
      have Ef2 := Lib.hid hf2
      clear c0 c1 c2 c3 c4 c5 c6 c7 z0 z1 z2 z3 z4 z5 z6 z7 HS6 hw7 hf2
      obtain ⟨c0, c1, c2, c3, c4, c5, c6, c7, z0, z1, z2, z3, z4, z5, z6, z7⟩ := S7.cells
      have HS7 := Lib.hid S7
      clear S7
      rw [rounds_succ]
      go_wp2
      go_region
      obtain ⟨d3, hd3⟩ : ∃ z : Int, (x3 + y3) % 4294967296 = z := ⟨_, rfl⟩
      rw [hd3]
      obtain ⟨w8, hw8⟩ : ∃ z, (w7.setCell ⟨w.heap.size, 3, none⟩ (.int .u32 d3)).drew = z := ⟨_, rfl⟩
      have S8 := (HS7.out.set 3 d3).drew
      rw [hw8] at S8 ⊢
      have S8 : St w w8 [d0, d1, d2, d3, f0, f1, f2, y3] := S8
      have Ed3 := Lib.hid hd3
      clear c0 c1 c2 c3 c4 c5 c6 c7 z0 z1 z2 z3 z4 z5 z6 z7 HS7 hw8 hd3
      obtain ⟨c0, c1, c2, c3, c4, c5, c6, c7, z0, z1, z2, z3, z4, z5, z6, z7⟩ := S8.cells
      have HS8 := Lib.hid S8
      clear S8
      have hX : W32 (bits .xor .u32 y3 d3) := xr_W q3 (Ed3.out ▸ sm_W x3 y3)
      have X0 := hX.1
      have X1 := lt32 hX
      clear hX
      have kw : IntKind.i64.wrap 7 = 7 := by decide
      go_wp2_with fail
      go_still_tail 12, (by kernel_rfl)
      still_call (turn_any _ _ _ X0 X1)
      refine wpStill_nil ?_
      change wpList _ _ _ _ _ w8.drew
      go_wp2_with fail
      clear X0 X1 kw
      obtain ⟨f3, hf3⟩ : ∃ z : Int, tn (bits .xor .u32 y3 d3) 18 = z := ⟨_, rfl⟩
      rw [hf3]
      obtain ⟨w9, hw9⟩ : ∃ z, (w8.setCell ⟨w.heap.size, 7, none⟩ (.int .u32 f3)).drew = z := ⟨_, rfl⟩
      have S9 := (HS8.out.set 7 f3).drew
      rw [hw9] at S9 ⊢
      have S9 : St w w9 [d0, d1, d2, d3, f0, f1, f2, f3] := S9
      have Ef3 := Lib.hid hf3
      clear c0 c1 c2 c3 c4 c5 c6 c7 z0 z1 z2 z3 z4 z5 z6 z7 HS8 hw9 hf3
      obtain ⟨c0, c1, c2, c3, c4, c5, c6, c7, z0, z1, z2, z3, z4, z5, z6, z7⟩ := S9.cells
      have HS9 := Lib.hid S9
      clear S9
      rw [rounds_succ]
      go_wp2_with fail
      refine (moved_3 _ _ _ _ _ _ _ _ _).mono ?_
      rintro e w10 ⟨rfl, b10⟩
      have S10 := HS9.out.after b10
      clear c0 c1 c2 c3 c4 c5 c6 c7 z0 z1 z2 z3 z4 z5 z6 z7 b10
      obtain ⟨c0, c1, c2, c3, c4, c5, c6, c7, z0, z1, z2, z3, z4, z5, z6, z7⟩ := S10.cells
      have HS10 := Lib.hid S10
      clear S10
      go_wp2_with fail
      refine ⟨⟨k + 1, by omega, by go_num, ?_⟩, by simp [intOf]; omega⟩
      show St _ _ _
      rw [HMS.out, HM8.out, rnd_eq Ee.out Ed0.out Ed1.out Ed2.out Ed3.out Ef0.out Ef1.out Ef2.out Ef3.out]
      exact (((((((HS10.out.set 0 _).set 1 _).set 2 _).set 3 _).set 4 _).set 5 _).set 6 _).set 7 _
    · obtain rfl : k = 8 := by omega
      obtain ⟨r0, r1, r2, r3, r4, r5, r6, r7, s0, s1, s2, s3, s4, s5, s6, s7⟩ := cells8 S.hr
      have HR := Lib.hid S.hr
      have HB := Lib.hid S.hb
      have hTx : T = [x0, x1, x2, x3, y0, y1, y2, y3] := HFIN.out.symm.trans hm8
      have HTX := Lib.hid hTx
      clear hTx hm8 S
      go_wp2_with fail
      refine bodyPost_ret (v := .agg #[.int .u32 x0, .int .u32 x1, .int .u32 x2, .int .u32 x3, .int .u32 y0, .int .u32 y1, .int .u32 y2, .int .u32 y3]) (by
        obtain ⟨k0, k1, k2, k3, k4, k5, k6, k7, _⟩ := cells8 (row8 HR.out (.int .u32 x0) (.int .u32 x1) (.int .u32 x2) (.int .u32 x3) (.int .u32 y0) (.int .u32 y1) (.int .u32 y2) (.int .u32 y3))
        simp [results, go_sem, k0, k1, k2, k3, k4, k5, k6, k7]) rfl ⟨by rw [HTX.out]; rfl, ?_⟩
      exact below_row8 HB.out _ _ _ _ _ _ _ _
end Go.Proofs.YtfbefenagnlnfaaDoor
