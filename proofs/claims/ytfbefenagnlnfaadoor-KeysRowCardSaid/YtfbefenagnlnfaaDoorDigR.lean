/- The reference of layer 3: the contracts of its turns, Mix and Unmix. -/
import Derived.Test.YtfbefenagnlnfaaDoorDigC
set_option linter.unusedVariables false
namespace Go.Proofs.YtfbefenagnlnfaaDoor
open Go.RowKit

set_option maxHeartbeats 400000 in
theorem turns_ref (w : World) :
    Calls Tryd.prog 79 #[] w fun e w' => e = .returned (.agg #[.int .i64 7, .int .i64 9, .int .i64 13, .int .i64 18]) ∧ w' = w.alloc (.cells #[.int .i64 7, .int .i64 9, .int .i64 13, .int .i64 18] 108) := by
  go_enter Tryd.func79, Tryd.ntmps79
  go_wp2
  exact bodyPost_ret (v := .agg #[.int .i64 7, .int .i64 9, .int .i64 13, .int .i64 18]) (by simp [results, go_sem]) rfl ⟨rfl, rfl⟩

/-- .. and the reference's table in the fourth block. -/
structure StR (w wr : World) (l : Ws) : Prop extends St w wr l where
  hk : wr.heap[w.heap.size + 3]? = some (.cells #[.int .i64 7, .int .i64 9, .int .i64 13, .int .i64 18] 108 (0, 0))
theorem StR.set {w wr : World} {l : Ws} (h : StR w wr l) (i : Nat) (v : Int) : StR w (wr.setCell ⟨w.heap.size, i, none⟩ (.int .u32 v)) (l.set i v) := by
  refine ⟨h.toSt.set i v, ?_⟩
  rw [heap_setCell_other _ _ _ _ (by simp)]
  exact h.hk
theorem StR.drew {w wr : World} {l : Ws} (h : StR w wr l) : StR w wr.drew l := ⟨h.toSt.drew, h.hk⟩
theorem StR.sizeR {w wr : World} {l : Ws} (h : StR w wr l) : w.heap.size + 4 ≤ wr.heap.size := by
  have h1 := h.hk
  rcases Nat.lt_or_ge (w.heap.size + 3) wr.heap.size with h' | h'
  · omega
  · rw [Array.getElem?_eq_none h'] at h1; simp at h1
theorem StR.after {w wr wn : World} {l : Ws} (h : StR w wr l) (hb : Below wr.heap.size wr wn) : StR w wn l :=
  ⟨h.toSt.after hb, by rw [hb.block _ (by have := h.sizeR; omega)]; exact h.hk⟩
theorem StR.alloc {w wr : World} {l : Ws} (h : StR w wr l) (o : Obj) : StR w (wr.alloc o) l := h.after ((Below.refl _ _).alloc (Nat.le_refl _) o)
theorem StR.kc {w wr : World} {l : Ws} (h : StR w wr l) : wr.cell? ⟨w.heap.size + 3, 0, none⟩ = some (.int .i64 7) ∧ wr.cell? ⟨w.heap.size + 3, 1, none⟩ = some (.int .i64 9) ∧ wr.cell? ⟨w.heap.size + 3, 2, none⟩ = some (.int .i64 13) ∧ wr.cell? ⟨w.heap.size + 3, 3, none⟩ = some (.int .i64 18) := by
  simp [World.cell?, h.hk]
theorem StR.new (w : World) (l : Ws) : StR w ((((w.alloc (.cells (l.map (Value.int .u32)).toArray 89)).alloc (.cells #[.int .u32 0, .int .u32 0, .int .u32 0, .int .u32 0, .int .u32 0, .int .u32 0, .int .u32 0, .int .u32 0] 89)).alloc (.cells #[.int .i64 7, .int .i64 9, .int .i64 13, .int .i64 18] 108)).alloc (.cells #[.int .i64 7, .int .i64 9, .int .i64 13, .int .i64 18] 108)) l := by
  have h := St.new w l
  have h2 := (h.after ((Below.refl _ _).alloc (Nat.le_refl _) (.cells #[.int .i64 7, .int .i64 9, .int .i64 13, .int .i64 18] 108)))
  have h3 := (h2.after ((Below.refl _ _).alloc (Nat.le_refl _) (.cells #[.int .i64 7, .int .i64 9, .int .i64 13, .int .i64 18] 108)))
  refine ⟨h3, ?_⟩
  have := heap_alloc_new (((w.alloc (.cells (l.map (Value.int .u32)).toArray 89)).alloc (.cells #[.int .u32 0, .int .u32 0, .int .u32 0, .int .u32 0, .int .u32 0, .int .u32 0, .int .u32 0, .int .u32 0] 89)).alloc (.cells #[.int .i64 7, .int .i64 9, .int .i64 13, .int .i64 18] 108)) (.cells #[.int .i64 7, .int .i64 9, .int .i64 13, .int .i64 18] 108)
  simpa using this
theorem gr_smR (x : Int) (k : Nat) : (x + 2654435769 * (((k : Int) + 1) % 4294967296)) % 4294967296 = sm x (gr k) := by unfold sm gr; omega
theorem rnd_eqR {k : Nat} {e d0 d1 d2 d3 f0 f1 f2 f3 x0 x1 x2 x3 y0 y1 y2 y3 : Int} (he : (x0 + 2654435769 * ((k : Int) + 1)) % 4294967296 = e) (h0 : (e + y0) % 4294967296 = d0) (h1 : (x1 + y1) % 4294967296 = d1) (h2 : (x2 + y2) % 4294967296 = d2) (h3 : (x3 + y3) % 4294967296 = d3)
    (g0 : tn (bits .xor .u32 y0 d0) 7 = f0) (g1 : tn (bits .xor .u32 y1 d1) 9 = f1) (g2 : tn (bits .xor .u32 y2 d2) 13 = f2) (g3 : tn (bits .xor .u32 y3 d3) 18 = f3) : rnd k [x0, x1, x2, x3, y0, y1, y2, y3] = [d3, f0, f1, f2, f3, d0, d1, d2] := by
  rw [show (x0 + 2654435769 * ((k : Int) + 1)) % 4294967296 = sm x0 (gr k) by unfold sm gr; omega] at he
  subst g0 g1 g2 g3 h0 h1 h2 h3 he
  rfl

set_option maxRecDepth 100000 in
set_option maxHeartbeats 8000000 in
theorem mix_ref (l : Ws) (w : World) (hl : Ok8 l) :
    Calls Tryd.prog 73 #[ag l] w fun e w' => e = .returned (ag (mix l)) ∧ Below w.heap.size w w' := by
  obtain ⟨T, hT⟩ : ∃ T, mix l = T := ⟨_, rfl⟩
  rw [hT]
  have HFIN : Hid (mixN 8 l = T) := hT
  have S0 := Lib.hid (StR.new w l)
  have HOK := Lib.hid (mixN_ok hl)
  have HM0 : Hid (mixN 0 l = l) := rfl
  have HMS := Lib.hid (fun n => show mixN (n + 1) l = rnd n (mixN n l) from rfl)
  obtain ⟨a0, a1, a2, a3, b0, b1, b2, b3, hl8, _⟩ := ok8 hl
  have HL8 := Lib.hid hl8
  have e : ag l = .agg #[.int .u32 a0, .int .u32 a1, .int .u32 a2, .int .u32 a3, .int .u32 b0, .int .u32 b1, .int .u32 b2, .int .u32 b3] := by rw [hl8]; rfl
  rw [e]
  clear hT hl e hl8
  go_enter Tryd.func73, Tryd.ntmps73
  go_wp2_with fail
  refine (turns_ref _).mono ?_
  rintro e w' ⟨rfl, rfl⟩
  go_wp2_with fail
  go_loopw [4] (fun si wr => ∃ k : Nat, k ≤ 8 ∧ si = .int .i64 k ∧ Hid (StR w wr (mixN k l))) (fun si _ => 8 - (intOf si).toNat)
  case atStart =>
    have S1 := S0.out
    rw [HL8.out] at S1
    refine ⟨0, Nat.zero_le _, rfl, ?_⟩
    show StR _ _ _
    rw [HM0.out, HL8.out]
    exact S1
  case round =>
    obtain ⟨k, hk, rfl, HM⟩ := hrel
    obtain ⟨x0, x1, x2, x3, y0, y1, y2, y3, hm8, p0, p1, p2, p3, q0, q1, q2, q3⟩ := ok8 (HOK.out k)
    have S := HM.out
    rw [hm8] at S
    obtain ⟨c0, c1, c2, c3, c4, c5, c6, c7, z0, z1, z2, z3, z4, z5, z6, z7⟩ := S.cells
    by_cases hlt : k < 8
    · have HM8 := Lib.hid hm8
      obtain ⟨t0, t1, t2, t3⟩ := S.kc
      have HS := Lib.hid S
      clear hm8 S
      go_wp2_with fail
      refine wp_loop_rounds 5 ?_
      obtain ⟨e, he⟩ : ∃ z : Int, (x0 + 2654435769 * ((k : Int) + 1)) % 4294967296 = z := ⟨_, rfl⟩
      rw [he]
      obtain ⟨w1, hw1⟩ : ∃ z, (wr.setCell ⟨w.heap.size, 0, none⟩ (.int .u32 e)) = z := ⟨_, rfl⟩
      have S1 := (HS.out.set 0 e)
      rw [hw1] at S1 ⊢
      have S1 : StR w w1 [e, x1, x2, x3, y0, y1, y2, y3] := S1
      have Ee := Lib.hid he
      clear t0 t1 t2 t3 c0 c1 c2 c3 c4 c5 c6 c7 z0 z1 z2 z3 z4 z5 z6 z7 HS hw1 he
      obtain ⟨c0, c1, c2, c3, c4, c5, c6, c7, z0, z1, z2, z3, z4, z5, z6, z7⟩ := S1.cells
      obtain ⟨t0, t1, t2, t3⟩ := S1.kc
      have HS1 := Lib.hid S1
      clear S1
      rw [rounds_succ]
      go_wp2_with fail
      go_region
      obtain ⟨d0, hd0⟩ : ∃ z : Int, (e + y0) % 4294967296 = z := ⟨_, rfl⟩
      rw [hd0]
      obtain ⟨w2, hw2⟩ : ∃ z, (w1.setCell ⟨w.heap.size, 0, none⟩ (.int .u32 d0)).drew = z := ⟨_, rfl⟩
      have S2 := (HS1.out.set 0 d0).drew
      rw [hw2] at S2 ⊢
      have S2 : StR w w2 [d0, x1, x2, x3, y0, y1, y2, y3] := S2
      have Ed0 := Lib.hid hd0
      clear t0 t1 t2 t3 c0 c1 c2 c3 c4 c5 c6 c7 z0 z1 z2 z3 z4 z5 z6 z7 HS1 hw2 hd0
      obtain ⟨c0, c1, c2, c3, c4, c5, c6, c7, z0, z1, z2, z3, z4, z5, z6, z7⟩ := S2.cells
      obtain ⟨t0, t1, t2, t3⟩ := S2.kc
      have HS2 := Lib.hid S2
      clear S2
      have hX : W32 (bits .xor .u32 y0 d0) := xr_W q0 (Ed0.out ▸ sm_W e y0)
      have kw : IntKind.i64.wrap 4 = 4 := by decide
      go_wp2_with fail
      go_still_tail 14, (by kernel_rfl)
      still_call (ref_turn _ _ _ hX)
      refine wpStill_nil ?_
      change wpList _ _ _ _ _ w2.drew
      go_wp2_with fail
      clear hX kw
      obtain ⟨f0, hf0⟩ : ∃ z : Int, tn (bits .xor .u32 y0 d0) 7 = z := ⟨_, rfl⟩
      rw [hf0]
      obtain ⟨w3, hw3⟩ : ∃ z, (w2.setCell ⟨w.heap.size, 4, none⟩ (.int .u32 f0)).drew = z := ⟨_, rfl⟩
      have S3 := (HS2.out.set 4 f0).drew
      rw [hw3] at S3 ⊢
      have S3 : StR w w3 [d0, x1, x2, x3, f0, y1, y2, y3] := S3
      have Ef0 := Lib.hid hf0
      clear t0 t1 t2 t3 c0 c1 c2 c3 c4 c5 c6 c7 z0 z1 z2 z3 z4 z5 z6 z7 HS2 hw3 hf0
      obtain ⟨c0, c1, c2, c3, c4, c5, c6, c7, z0, z1, z2, z3, z4, z5, z6, z7⟩ := S3.cells
      obtain ⟨t0, t1, t2, t3⟩ := S3.kc
      have HS3 := Lib.hid S3
      clear S3
      rw [rounds_succ]
      go_wp2_with fail
      go_region
      obtain ⟨d1, hd1⟩ : ∃ z : Int, (x1 + y1) % 4294967296 = z := ⟨_, rfl⟩
      rw [hd1]
      obtain ⟨w4, hw4⟩ : ∃ z, (w3.setCell ⟨w.heap.size, 1, none⟩ (.int .u32 d1)).drew = z := ⟨_, rfl⟩
      have S4 := (HS3.out.set 1 d1).drew
      rw [hw4] at S4 ⊢
      have S4 : StR w w4 [d0, d1, x2, x3, f0, y1, y2, y3] := S4
      have Ed1 := Lib.hid hd1
      clear t0 t1 t2 t3 c0 c1 c2 c3 c4 c5 c6 c7 z0 z1 z2 z3 z4 z5 z6 z7 HS3 hw4 hd1
      obtain ⟨c0, c1, c2, c3, c4, c5, c6, c7, z0, z1, z2, z3, z4, z5, z6, z7⟩ := S4.cells
      obtain ⟨t0, t1, t2, t3⟩ := S4.kc
      have HS4 := Lib.hid S4
      clear S4
      have hX : W32 (bits .xor .u32 y1 d1) := xr_W q1 (Ed1.out ▸ sm_W x1 y1)
      have kw : IntKind.i64.wrap 5 = 5 := by decide
      go_wp2_with fail
      go_still_tail 14, (by kernel_rfl)
      still_call (ref_turn _ _ _ hX)
      refine wpStill_nil ?_
      change wpList _ _ _ _ _ w4.drew
      go_wp2_with fail
      clear hX kw
      obtain ⟨f1, hf1⟩ : ∃ z : Int, tn (bits .xor .u32 y1 d1) 9 = z := ⟨_, rfl⟩
      rw [hf1]
      obtain ⟨w5, hw5⟩ : ∃ z, (w4.setCell ⟨w.heap.size, 5, none⟩ (.int .u32 f1)).drew = z := ⟨_, rfl⟩
      have S5 := (HS4.out.set 5 f1).drew
      rw [hw5] at S5 ⊢
      have S5 : StR w w5 [d0, d1, x2, x3, f0, f1, y2, y3] := S5
      have Ef1 := Lib.hid hf1
      clear t0 t1 t2 t3 c0 c1 c2 c3 c4 c5 c6 c7 z0 z1 z2 z3 z4 z5 z6 z7 HS4 hw5 hf1
      obtain ⟨c0, c1, c2, c3, c4, c5, c6, c7, z0, z1, z2, z3, z4, z5, z6, z7⟩ := S5.cells
      obtain ⟨t0, t1, t2, t3⟩ := S5.kc
      have HS5 := Lib.hid S5
      clear S5
      rw [rounds_succ]
      go_wp2_with fail
      go_region
      obtain ⟨d2, hd2⟩ : ∃ z : Int, (x2 + y2) % 4294967296 = z := ⟨_, rfl⟩
      rw [hd2]
      obtain ⟨w6, hw6⟩ : ∃ z, (w5.setCell ⟨w.heap.size, 2, none⟩ (.int .u32 d2)).drew = z := ⟨_, rfl⟩
      have S6 := (HS5.out.set 2 d2).drew
      rw [hw6] at S6 ⊢
      have S6 : StR w w6 [d0, d1, d2, x3, f0, f1, y2, y3] := S6
      have Ed2 := Lib.hid hd2
      clear t0 t1 t2 t3 c0 c1 c2 c3 c4 c5 c6 c7 z0 z1 z2 z3 z4 z5 z6 z7 HS5 hw6 hd2
      obtain ⟨c0, c1, c2, c3, c4, c5, c6, c7, z0, z1, z2, z3, z4, z5, z6, z7⟩ := S6.cells
      obtain ⟨t0, t1, t2, t3⟩ := S6.kc
      have HS6 := Lib.hid S6
      clear S6
      have hX : W32 (bits .xor .u32 y2 d2) := xr_W q2 (Ed2.out ▸ sm_W x2 y2)
      have kw : IntKind.i64.wrap 6 = 6 := by decide
      go_wp2_with fail
      go_still_tail 14, (by kernel_rfl)
      still_call (ref_turn _ _ _ hX)
      refine wpStill_nil ?_
      change wpList _ _ _ _ _ w6.drew
      go_wp2_with fail
      clear hX kw
      obtain ⟨f2, hf2⟩ : ∃ z : Int, tn (bits .xor .u32 y2 d2) 13 = z := ⟨_, rfl⟩
      rw [hf2]
      obtain ⟨w7, hw7⟩ : ∃ z, (w6.setCell ⟨w.heap.size, 6, none⟩ (.int .u32 f2)).drew = z := ⟨_, rfl⟩
      have S7 := (HS6.out.set 6 f2).drew
      rw [hw7] at S7 ⊢
      have S7 : StR w w7 [d0, d1, d2, x3, f0, f1, f2, y3] := S7
      have Ef2 := Lib.hid hf2
      clear t0 t1 t2 t3 c0 c1 c2 c3 c4 c5 c6 c7 z0 z1 z2 z3 z4 z5 z6 z7 HS6 hw7 hf2
      obtain ⟨c0, c1, c2, c3, c4, c5, c6, c7, z0, z1, z2, z3, z4, z5, z6, z7⟩ := S7.cells
      obtain ⟨t0, t1, t2, t3⟩ := S7.kc
      have HS7 := Lib.hid S7
      clear S7
      rw [rounds_succ]
      go_wp2_with fail
      go_region
      obtain ⟨d3, hd3⟩ : ∃ z : Int, (x3 + y3) % 4294967296 = z := ⟨_, rfl⟩
      rw [hd3]
      obtain ⟨w8, hw8⟩ : ∃ z, (w7.setCell ⟨w.heap.size, 3, none⟩ (.int .u32 d3)).drew = z := ⟨_, rfl⟩
      have S8 := (HS7.out.set 3 d3).drew
      rw [hw8] at S8 ⊢
      have S8 : StR w w8 [d0, d1, d2, d3, f0, f1, f2, y3] := S8
      have Ed3 := Lib.hid hd3
      clear t0 t1 t2 t3 c0 c1 c2 c3 c4 c5 c6 c7 z0 z1 z2 z3 z4 z5 z6 z7 HS7 hw8 hd3
      obtain ⟨c0, c1, c2, c3, c4, c5, c6, c7, z0, z1, z2, z3, z4, z5, z6, z7⟩ := S8.cells
      obtain ⟨t0, t1, t2, t3⟩ := S8.kc
      have HS8 := Lib.hid S8
      clear S8
      have hX : W32 (bits .xor .u32 y3 d3) := xr_W q3 (Ed3.out ▸ sm_W x3 y3)
      have kw : IntKind.i64.wrap 7 = 7 := by decide
      go_wp2_with fail
      go_still_tail 14, (by kernel_rfl)
      still_call (ref_turn _ _ _ hX)
      refine wpStill_nil ?_
      change wpList _ _ _ _ _ w8.drew
      go_wp2_with fail
      clear hX kw
      obtain ⟨f3, hf3⟩ : ∃ z : Int, tn (bits .xor .u32 y3 d3) 18 = z := ⟨_, rfl⟩
      rw [hf3]
      obtain ⟨w9, hw9⟩ : ∃ z, (w8.setCell ⟨w.heap.size, 7, none⟩ (.int .u32 f3)).drew = z := ⟨_, rfl⟩
      have S9 := (HS8.out.set 7 f3).drew
      rw [hw9] at S9 ⊢
      have S9 : StR w w9 [d0, d1, d2, d3, f0, f1, f2, f3] := S9
      have Ef3 := Lib.hid hf3
      clear t0 t1 t2 t3 c0 c1 c2 c3 c4 c5 c6 c7 z0 z1 z2 z3 z4 z5 z6 z7 HS8 hw9 hf3
      obtain ⟨c0, c1, c2, c3, c4, c5, c6, c7, z0, z1, z2, z3, z4, z5, z6, z7⟩ := S9.cells
      obtain ⟨t0, t1, t2, t3⟩ := S9.kc
      have HS9 := Lib.hid S9
      clear S9
      have lz : w.heap.size < w9.heap.size := by have := HS9.out.sizeR; omega
      rw [rounds_succ]
      go_wp2_with fail
      refine wp_loop_rounds 9 ?_
      iterate 9 (rw [rounds_succ]; go_wp2_with fail)
      refine ⟨⟨k + 1, by omega, by go_num, ?_⟩, by simp [intOf]; omega⟩
      show StR _ _ _
      rw [HMS.out, HM8.out, rnd_eqR Ee.out Ed0.out Ed1.out Ed2.out Ed3.out Ef0.out Ef1.out Ef2.out Ef3.out]
      exact ((((((((HS9.out.set 0 _).set 1 _).set 2 _).set 3 _).set 4 _).set 5 _).set 6 _).set 7 _).alloc _
    · obtain rfl : k = 8 := by omega
      obtain ⟨r0, r1, r2, r3, r4, r5, r6, r7, s0, s1, s2, s3, s4, s5, s6, s7⟩ := cells8 S.hr
      have HR := Lib.hid S.hr
      have HB := Lib.hid S.hb
      have hTx : T = [x0, x1, x2, x3, y0, y1, y2, y3] := HFIN.out.symm.trans hm8
      have HTX := Lib.hid hTx
      clear hTx S
      go_wp2_with fail
      refine bodyPost_ret (v := .agg #[.int .u32 x0, .int .u32 x1, .int .u32 x2, .int .u32 x3, .int .u32 y0, .int .u32 y1, .int .u32 y2, .int .u32 y3]) (by
        obtain ⟨k0, k1, k2, k3, k4, k5, k6, k7, _⟩ := cells8 (row8 HR.out (.int .u32 x0) (.int .u32 x1) (.int .u32 x2) (.int .u32 x3) (.int .u32 y0) (.int .u32 y1) (.int .u32 y2) (.int .u32 y3))
        simp [results, go_sem, k0, k1, k2, k3, k4, k5, k6, k7]) rfl ⟨by rw [HTX.out]; rfl, ?_⟩
      exact below_row8 HB.out _ _ _ _ _ _ _ _
end Go.Proofs.YtfbefenagnlnfaaDoor
