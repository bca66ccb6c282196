/- Package digest: the contract of Unmix. -/
import Derived.Test.YtflggcnojfmlmaaDoorDigB
set_option linter.unusedVariables false
namespace Go.Proofs.YtflggcnojfmlmaaDoor
open Go.RowKit

theorem sub_df (a b : Int) : (a - b) % 4294967296 = df a b := by unfold df; omega
theorem gr_df (x k : Int) : (x - 2654435769 * (k + 1)) % 4294967296 = df x (gr k) := by unfold df gr; omega
theorem unr_eq {k d0 d1 d2 d3 f0 f1 f2 f3 x0 x1 x2 x3 y0 y1 y2 y3 : Int} (g0 : bits .xor .u32 (tn x1 (-7)) y1 = f0) (g1 : bits .xor .u32 (tn x2 (-9)) y2 = f1) (g2 : bits .xor .u32 (tn x3 (-13)) y3 = f2) (g3 : bits .xor .u32 (tn y0 (-18)) x0 = f3)
    (h0 : (y1 - f0) % 4294967296 = d0) (h1 : (y2 - f1) % 4294967296 = d1) (h2 : (y3 - f2) % 4294967296 = d2) (h3 : (x0 - f3) % 4294967296 = d3) :
    unr k [x0, x1, x2, x3, y0, y1, y2, y3] = [(d0 - 2654435769 * (k + 1)) % 4294967296, d1, d2, d3, f0, f1, f2, f3] := by
  rw [sub_df] at h0 h1 h2 h3
  rw [gr_df]
  subst g0 g1 g2 g3 h0 h1 h2 h3
  rfl

set_option maxRecDepth 100000 in
set_option maxHeartbeats 8000000 in
theorem unmix_code (l : Ws) (w : World) (hl : Ok8 l) (ht : Tabs w) :
    Calls Tryd.prog 9 #[ag l] w fun e w' => e = .returned (ag (unmix l)) ∧ Below w.heap.size w w' := by
  obtain ⟨T, hT⟩ : ∃ T, unmix l = T := ⟨_, rfl⟩
  rw [hT]
  have HFIN : Hid (unN 8 l = T) := hT
  have S0 := Lib.hid (St.new w l)
  have HOK0 := Lib.hid hl
  obtain ⟨a0, a1, a2, a3, b0, b1, b2, b3, hl8, _⟩ := ok8 hl
  have HL8 := Lib.hid hl8
  have e : ag l = .agg #[.int .u32 a0, .int .u32 a1, .int .u32 a2, .int .u32 a3, .int .u32 b0, .int .u32 b1, .int .u32 b2, .int .u32 b3] := by rw [hl8]; rfl
  rw [e]
  have HT := Lib.hid ht
  clear ht hT hl e hl8
  go_enter Tryd.func9, Tryd.ntmps9
  go_wp2
  go_loopw [3] (fun si wr => ∃ k : Nat, k ≤ 8 ∧ si = .int .u32 k ∧ Hid (∃ m, Ok8 m ∧ unN k m = T ∧ St w wr m)) (fun si _ => (intOf si).toNat)
  case atStart =>
    have S1 := S0.out
    rw [HL8.out] at S1
    refine ⟨8, Nat.le_refl _, rfl, ?_⟩
    show ∃ m, _
    exact ⟨l, HOK0.out, HFIN.out, by rw [HL8.out]; exact S1⟩
  case round =>
    obtain ⟨k, hk, rfl, HM⟩ := hrel
    obtain ⟨m, hok, hkm, S⟩ := HM.out
    have HOK := Lib.hid hok
    have HKM := Lib.hid hkm
    obtain ⟨x0, x1, x2, x3, y0, y1, y2, y3, hm8, p0, p1, p2, p3, q0, q1, q2, q3⟩ := ok8 hok
    rw [hm8] at S
    have HM8 := Lib.hid hm8
    have HS0 := Lib.hid S
    clear HM hok hkm hm8
    obtain ⟨c0, c1, c2, c3, c4, c5, c6, c7, z0, z1, z2, z3, z4, z5, z6, z7⟩ := S.cells
    by_cases hlt : 0 < k
    · obtain ⟨j, rfl⟩ : ∃ j, k = j + 1 := ⟨k - 1, by omega⟩
      clear S
      go_wp2_with fail
      refine (moved_5 _ _ _ _ _ _ _ _ _).mono ?_
      rintro e w1 ⟨rfl, b1⟩
      have S1 := HS0.out.after b1
      clear c0 c1 c2 c3 c4 c5 c6 c7 z0 z1 z2 z3 z4 z5 z6 z7 b1
      obtain ⟨c0, c1, c2, c3, c4, c5, c6, c7, z0, z1, z2, z3, z4, z5, z6, z7⟩ := S1.cells
      have HS1 := Lib.hid S1
      obtain ⟨t0, t1, t2, t3⟩ := turns4 (HT.out.below S1.hb)
      have lg : w.heap.size ≠ 0 := Nat.ne_of_gt HT.out.at.lt
      obtain ⟨i0, i1, i2, i3⟩ := idx4 7 9 13 18
      clear S1
      go_wp2
      clear t0 t1 t2 t3 lg
      obtain ⟨w2, hw2⟩ : ∃ z, ((((((((w1.setCell ⟨w.heap.size, 0, none⟩ (.int .u32 y1)).setCell ⟨w.heap.size, 1, none⟩ (.int .u32 y2)).setCell ⟨w.heap.size, 2, none⟩ (.int .u32 y3)).setCell ⟨w.heap.size, 3, none⟩ (.int .u32 x0)).setCell ⟨w.heap.size, 4, none⟩ (.int .u32 x1)).setCell ⟨w.heap.size, 5, none⟩ (.int .u32 x2)).setCell ⟨w.heap.size, 6, none⟩ (.int .u32 x3)).setCell ⟨w.heap.size, 7, none⟩ (.int .u32 y0)) = z := ⟨_, rfl⟩
      have S2 := (((((((HS1.out.set 0 y1).set 1 y2).set 2 y3).set 3 x0).set 4 x1).set 5 x2).set 6 x3).set 7 y0
      rw [hw2] at S2 ⊢
      have S2 : St w w2 [y1, y2, y3, x0, x1, x2, x3, y0] := S2
      clear c0 c1 c2 c3 c4 c5 c6 c7 z0 z1 z2 z3 z4 z5 z6 z7 HS1 hw2
      obtain ⟨c0, c1, c2, c3, c4, c5, c6, c7, z0, z1, z2, z3, z4, z5, z6, z7⟩ := S2.cells
      have HS2 := Lib.hid S2
      clear S2
      refine wp_loop_rounds 5 ?_
      rw [rounds_succ]
      go_wp2
      have X0 := p1.1
      have X1 := lt32 p1
      have kw : IntKind.i64.wrap 4 = 4 := by decide
      go_still_tail 13, (by kernel_rfl)
      still_call (turn_any _ _ _ X0 X1)
      repeat still_step
      refine wpStill_nil ?_
      change wpList _ _ _ _ _ w2.drew
      go_wp2_with fail
      clear X0 X1 kw
      obtain ⟨f0, hf0⟩ : ∃ z : Int, bits .xor .u32 (tn x1 (-7)) y1 = z := ⟨_, rfl⟩
      rw [hf0]
      obtain ⟨w3, hw3⟩ : ∃ z, (w2.setCell ⟨w.heap.size, 4, none⟩ (.int .u32 f0)).drew = z := ⟨_, rfl⟩
      have S3 := (HS2.out.set 4 f0).drew
      rw [hw3] at S3 ⊢
      have S3 : St w w3 [y1, y2, y3, x0, f0, x2, x3, y0] := S3
      have Ef0 := Lib.hid hf0
      clear c0 c1 c2 c3 c4 c5 c6 c7 z0 z1 z2 z3 z4 z5 z6 z7 HS2 hw3 hf0
      obtain ⟨c0, c1, c2, c3, c4, c5, c6, c7, z0, z1, z2, z3, z4, z5, z6, z7⟩ := S3.cells
      have HS3 := Lib.hid S3
      clear S3
      go_region
      obtain ⟨d0, hd0⟩ : ∃ z : Int, (y1 - f0) % 4294967296 = z := ⟨_, rfl⟩
      rw [hd0]
      obtain ⟨w4, hw4⟩ : ∃ z, (w3.setCell ⟨w.heap.size, 0, none⟩ (.int .u32 d0)).drew = z := ⟨_, rfl⟩
      have S4 := (HS3.out.set 0 d0).drew
      rw [hw4] at S4 ⊢
      have S4 : St w w4 [d0, y2, y3, x0, f0, x2, x3, y0] := S4
      have Ed0 := Lib.hid hd0
      clear c0 c1 c2 c3 c4 c5 c6 c7 z0 z1 z2 z3 z4 z5 z6 z7 HS3 hw4 hd0
      obtain ⟨c0, c1, c2, c3, c4, c5, c6, c7, z0, z1, z2, z3, z4, z5, z6, z7⟩ := S4.cells
      have HS4 := Lib.hid S4
      clear S4
      go_wp2
      rw [rounds_succ]
      go_wp2
      have X0 := p2.1
      have X1 := lt32 p2
      have kw : IntKind.i64.wrap 5 = 5 := by decide
      go_still_tail 13, (by kernel_rfl)
      still_call (turn_any _ _ _ X0 X1)
      repeat still_step
      refine wpStill_nil ?_
      change wpList _ _ _ _ _ w4.drew
      go_wp2_with fail
      clear X0 X1 kw
      obtain ⟨f1, hf1⟩ : ∃ z : Int, bits .xor .u32 (tn x2 (-9)) y2 = z := ⟨_, rfl⟩
      rw [hf1]
      obtain ⟨w5, hw5⟩ : ∃ z, (w4.setCell ⟨w.heap.size, 5, none⟩ (.int .u32 f1)).drew = z := ⟨_, rfl⟩
      have S5 := (HS4.out.set 5 f1).drew
      rw [hw5] at S5 ⊢
      have S5 : St w w5 [d0, y2, y3, x0, f0, f1, x3, y0] := S5
      have Ef1 := Lib.hid hf1
      clear c0 c1 c2 c3 c4 c5 c6 c7 z0 z1 z2 z3 z4 z5 z6 z7 HS4 hw5 hf1
      obtain ⟨c0, c1, c2, c3, c4, c5, c6, c7, z0, z1, z2, z3, z4, z5, z6, z7⟩ := S5.cells
      have HS5 := Lib.hid S5
      clear S5
      go_region
      obtain ⟨d1, hd1⟩ : ∃ z : Int, (y2 - f1) % 4294967296 = z := ⟨_, rfl⟩
      rw [hd1]
      obtain ⟨w6, hw6⟩ : ∃ z, (w5.setCell ⟨w.heap.size, 1, none⟩ (.int .u32 d1)).drew = z := ⟨_, rfl⟩
      have S6 := (HS5.out.set 1 d1).drew
      rw [hw6] at S6 ⊢
      have S6 : St w w6 [d0, d1, y3, x0, f0, f1, x3, y0] := S6
      have Ed1 := Lib.hid hd1
      clear c0 c1 c2 c3 c4 c5 c6 c7 z0 z1 z2 z3 z4 z5 z6 z7 HS5 hw6 hd1
      obtain ⟨c0, c1, c2, c3, c4, c5, c6, c7, z0, z1, z2, z3, z4, z5, z6, z7⟩ := S6.cells
      have HS6 := Lib.hid S6
      clear S6
      go_wp2
      rw [rounds_succ]
      go_wp2
      have X0 := p3.1
      have X1 := lt32 p3
      have kw : IntKind.i64.wrap 6 = 6 := by decide
      go_still_tail 13, (by kernel_rfl)
      still_call (turn_any _ _ _ X0 X1)
      repeat still_step
      refine wpStill_nil ?_
      change wpList _ _ _ _ _ w6.drew
      go_wp2_with fail
      clear X0 X1 kw
      obtain ⟨f2, hf2⟩ : ∃ z : Int, bits .xor .u32 (tn x3 (-13)) y3 = z := ⟨_, rfl⟩
      rw [hf2]
      obtain ⟨w7, hw7⟩ : ∃ z, (w6.setCell ⟨w.heap.size, 6, none⟩ (.int .u32 f2)).drew = z := ⟨_, rfl⟩
      have S7 := (HS6.out.set 6 f2).drew
      rw [hw7] at S7 ⊢
      have S7 : St w w7 [d0, d1, y3, x0, f0, f1, f2, y0] := S7
      have Ef2 := Lib.hid hf2
      clear c0 c1 c2 c3 c4 c5 c6 c7 z0 z1 z2 z3 z4 z5 z6 z7 HS6 hw7 hf2
      obtain ⟨c0, c1, c2, c3, c4, c5, c6, c7, z0, z1, z2, z3, z4, z5, z6, z7⟩ := S7.cells
      have HS7 := Lib.hid S7
      clear S7
      go_region
      obtain ⟨d2, hd2⟩ : ∃ z : Int, (y3 - f2) % 4294967296 = z := ⟨_, rfl⟩
      rw [hd2]
      obtain ⟨w8, hw8⟩ : ∃ z, (w7.setCell ⟨w.heap.size, 2, none⟩ (.int .u32 d2)).drew = z := ⟨_, rfl⟩
      have S8 := (HS7.out.set 2 d2).drew
      rw [hw8] at S8 ⊢
      have S8 : St w w8 [d0, d1, d2, x0, f0, f1, f2, y0] := S8
      have Ed2 := Lib.hid hd2
      clear c0 c1 c2 c3 c4 c5 c6 c7 z0 z1 z2 z3 z4 z5 z6 z7 HS7 hw8 hd2
      obtain ⟨c0, c1, c2, c3, c4, c5, c6, c7, z0, z1, z2, z3, z4, z5, z6, z7⟩ := S8.cells
      have HS8 := Lib.hid S8
      clear S8
      go_wp2
      rw [rounds_succ]
      go_wp2
      have X0 := q0.1
      have X1 := lt32 q0
      have kw : IntKind.i64.wrap 7 = 7 := by decide
      go_still_tail 13, (by kernel_rfl)
      still_call (turn_any _ _ _ X0 X1)
      repeat still_step
      refine wpStill_nil ?_
      change wpList _ _ _ _ _ w8.drew
      go_wp2_with fail
      clear X0 X1 kw
      obtain ⟨f3, hf3⟩ : ∃ z : Int, bits .xor .u32 (tn y0 (-18)) x0 = z := ⟨_, rfl⟩
      rw [hf3]
      obtain ⟨w9, hw9⟩ : ∃ z, (w8.setCell ⟨w.heap.size, 7, none⟩ (.int .u32 f3)).drew = z := ⟨_, rfl⟩
      have S9 := (HS8.out.set 7 f3).drew
      rw [hw9] at S9 ⊢
      have S9 : St w w9 [d0, d1, d2, x0, f0, f1, f2, f3] := S9
      have Ef3 := Lib.hid hf3
      clear c0 c1 c2 c3 c4 c5 c6 c7 z0 z1 z2 z3 z4 z5 z6 z7 HS8 hw9 hf3
      obtain ⟨c0, c1, c2, c3, c4, c5, c6, c7, z0, z1, z2, z3, z4, z5, z6, z7⟩ := S9.cells
      have HS9 := Lib.hid S9
      clear S9
      go_region
      obtain ⟨d3, hd3⟩ : ∃ z : Int, (x0 - f3) % 4294967296 = z := ⟨_, rfl⟩
      rw [hd3]
      obtain ⟨w10, hw10⟩ : ∃ z, (w9.setCell ⟨w.heap.size, 3, none⟩ (.int .u32 d3)).drew = z := ⟨_, rfl⟩
      have S10 := (HS9.out.set 3 d3).drew
      rw [hw10] at S10 ⊢
      have S10 : St w w10 [d0, d1, d2, d3, f0, f1, f2, f3] := S10
      have Ed3 := Lib.hid hd3
      clear c0 c1 c2 c3 c4 c5 c6 c7 z0 z1 z2 z3 z4 z5 z6 z7 HS9 hw10 hd3
      obtain ⟨c0, c1, c2, c3, c4, c5, c6, c7, z0, z1, z2, z3, z4, z5, z6, z7⟩ := S10.cells
      have HS10 := Lib.hid S10
      clear S10
      go_wp2
      rw [rounds_succ]
      go_wp2
      refine ⟨⟨j, by omega, rfl, ?_⟩, by simp [intOf]⟩
      show ∃ m, _
      have hu := unr_eq Ef0.out Ef1.out Ef2.out Ef3.out Ed0.out Ed1.out Ed2.out Ed3.out (k := (j : Int))
      have ho := unr_ok (r := (j : Int)) HOK.out
      have hn := HKM.out
      rw [HM8.out] at ho hn
      rw [hu] at ho
      rw [unN, hu] at hn
      exact ⟨_, ho, hn, HS10.out.set 0 _⟩
    · obtain rfl : k = 0 := by omega
      obtain ⟨r0, r1, r2, r3, r4, r5, r6, r7, s0, s1, s2, s3, s4, s5, s6, s7⟩ := cells8 S.hr
      have HR := Lib.hid S.hr
      have HB := Lib.hid S.hb
      have hTx : T = [x0, x1, x2, x3, y0, y1, y2, y3] := HKM.out.symm.trans HM8.out
      have HTX := Lib.hid hTx
      clear hTx S
      go_wp2_with fail
      refine bodyPost_ret (v := .agg #[.int .u32 x0, .int .u32 x1, .int .u32 x2, .int .u32 x3, .int .u32 y0, .int .u32 y1, .int .u32 y2, .int .u32 y3]) (by
        obtain ⟨k0, k1, k2, k3, k4, k5, k6, k7, _⟩ := cells8 (row8 HR.out (.int .u32 x0) (.int .u32 x1) (.int .u32 x2) (.int .u32 x3) (.int .u32 y0) (.int .u32 y1) (.int .u32 y2) (.int .u32 y3))
        simp [results, go_sem, k0, k1, k2, k3, k4, k5, k6, k7]) rfl ⟨by rw [HTX.out]; rfl, ?_⟩
      exact below_row8 HB.out _ _ _ _ _ _ _ _
end Go.Proofs.YtflggcnojfmlmaaDoor
