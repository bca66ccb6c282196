/- Layer 9 (machine), the program's code: apply, get, put. -/
import Derived.Test.YtgojpflkhnaedaaDoorMcsA
import Derived.Test.YtgojpflkhnaedaaDoorWord
set_option linter.unusedVariables false
namespace Go.Proofs.YtgojpflkhnaedaaDoor
open Go.RowKit

set_option maxRecDepth 100000 in
set_option maxHeartbeats 4000000 in
theorem apply9 (pc : Int) (g : Nat → Int) (A : Option Addr) (n c : Nat) (rd : Int) (out : ByteArray) (st en : Int) {o : Int} {a b r : Nat} (x : Int) (w : World) (ha : a < 16) (hb : b < 16) (hr : r < 16) (hbv : 0 ≤ g b ∧ g b < 4294967296) (hrv : 0 ≤ g r ∧ g r < 4294967296) (hx : (if er o (g r) = 0 then (0 : Int) else 2) = x) :
    Calls Tryd.prog 40 #[.agg (stc pc g (.slice A n c) rd out st en), .agg #[.int .i64 o, .int .i64 (a : Int), .int .i64 (b : Int), .int .i64 (r : Int)]] w fun e w' => e = .returned (.tuple #[.agg (stc pc (gset g a (ap o (g b) (g r))) (.slice A n c) rd out st en), .int .i64 x]) ∧ Below w.heap.size w w' := by
  have hk := (((Kx.nil none w).more (.cells (stc pc g (.slice A n c) rd out st en) 30 (0, 0))).add (w.heap.size + 1) (by simp) (.cells #[.int .i64 o, .int .i64 (a : Int), .int .i64 (b : Int), .int .i64 (r : Int)] 40 (0, 0))).add (w.heap.size + 1 + 1) (by simp) (.cells #[.int .i64 0, .int .u32 0, .int .u32 0, .int .u32 0, .int .u32 0, .int .u32 0, .int .u32 0, .int .u32 0, .int .u32 0, .int .u32 0, .int .u32 0, .int .u32 0, .int .u32 0, .int .u32 0, .int .u32 0, .int .u32 0, .int .u32 0, .slice none 0 0, .int .i64 0, .string ⟨#[]⟩, .int .i64 0, .int .i64 0] 30 (0, 0))
  obtain ⟨W0, hW0⟩ : ∃ W, ((w.alloc (.cells (stc pc g (.slice A n c) rd out st en) 30 (0, 0))).alloc (.cells #[.int .i64 o, .int .i64 (a : Int), .int .i64 (b : Int), .int .i64 (r : Int)] 40 (0, 0))).alloc (.cells #[.int .i64 0, .int .u32 0, .int .u32 0, .int .u32 0, .int .u32 0, .int .u32 0, .int .u32 0, .int .u32 0, .int .u32 0, .int .u32 0, .int .u32 0, .int .u32 0, .int .u32 0, .int .u32 0, .int .u32 0, .int .u32 0, .int .u32 0, .slice none 0 0, .int .i64 0, .string ⟨#[]⟩, .int .i64 0, .int .i64 0] 30 (0, 0)) = W := ⟨_, rfl⟩
  rw [hW0] at hk
  have y0 := row_cell (hk.at 1 rfl) 0 (v := .int .i64 o) rfl
  have y1 := row_cell (hk.drew.at 1 rfl) 1 (v := .int .i64 (a : Int)) rfl
  have y2 := row_cell (hk.at 1 rfl) 2 (v := .int .i64 (b : Int)) rfl
  have y3 := row_cell (hk.at 1 rfl) 3 (v := .int .i64 (r : Int)) rfl
  have zb := row_cell (hk.at 0 rfl) (1 + b) (stc_get pc g (.slice A n c) rd out st en b hb)
  have zr := row_cell (hk.at 0 rfl) (1 + r) (stc_get pc g (.slice A n c) rd out st en r hr)
  have za := row_cell (hk.drew.at 0 rfl) (1 + a) (stc_get pc g (.slice A n c) rd out st en a ha)
  have fa := row_froz (hk.drew.at 0 rfl) (1 + a)
  have a0 : (0 : Int) ≤ (a : Int) := by omega
  have a1 : (a : Int) < 16 := by omega
  have b0 : (0 : Int) ≤ (b : Int) := by omega
  have b1 : (b : Int) < 16 := by omega
  have r0 : (0 : Int) ≤ (r : Int) := by omega
  have r1 : (r : Int) < 16 := by omega
  obtain ⟨p, hp⟩ : ∃ p, ap o (g b) (g r) = p := ⟨_, rfl⟩
  obtain ⟨q, hq⟩ : ∃ q, er o (g r) = q := ⟨_, rfl⟩
  have ca := fun w => apply_any o (g b) (g r) w hbv.1 hbv.2 hrv.1 hrv.2
  rw [hp, hq] at ca
  rw [hq] at hx
  rw [hp]
  have CA := Lib.hid ca
  have k1 := (hk.putc 0 rfl (.inr (Nat.le_refl _)) (1 + a) (.int .u32 p) (stc_set pc g (.slice A n c) rd out st en a ha p)).drew
  have k2 := k1.drew
  have hz := k2.putRow 2 rfl (.inr (by omega)) (stc pc (gset g a p) (.slice A n c) rd out st en)
  have g0 := Lib.hid (k2.at 0 rfl)
  have g1 := Lib.hid (k2.at 2 rfl)
  have g2 := Lib.hid (hz.at 2 rfl)
  have HB := Lib.hid hz.be.plain
  have S1 : Hid ((stc pc (gset g a p) (.slice A n c) rd out st en).all (·.oneCell') = true) := Lib.hid (stc_one _ _ _ _ _ _ _ _ _)
  have gk := Lib.hid (k1.at 0 rfl)
  clear hk k1 k2 hz ca hp hq
  go_enter Tryd.func40, Tryd.ntmps40
  go_upto_region 1 with fail
  refine wp_region_still_lit (by kernel_rfl) (by kernel_rfl) ?_
  repeat (first
    | still_call (CA.out _)
    | still_step)
  refine wpStill_nil ?_
  by_cases h0 : q = 0
  · have e0 : (q == 0) = true := beq_iff_eq.2 h0
    rw [if_pos h0] at hx
    subst hx
    have cu := fun w => unless_yes 2 w
    have CU := Lib.hid cu
    clear cu h0
    go_upto_region 3 with fail
    refine wp_region_still_tail 4 (by kernel_rfl) (by kernel_rfl) ?_
    simp only [List.take_succ_cons, List.take_zero, List.drop_succ_cons, List.drop_zero]
    repeat (first
      | (refine still_row rfl 30 _ rfl _ rfl 30 _ _ _ gk.out Tryd.underlying30 rfl (infoS2 rfl) ?_)
      | still_call (CU.out _)
      | still_step)
    refine wpStill_nil ?_
    go_wp2_with (first
      | (refine wpList_load_row rfl 30 _ rfl _ rfl 30 _ _ _ g0.out Tryd.underlying30 rfl (infoS2 rfl) ?_)
      | (refine wpList_store_rowTo rfl 30 _ _ rfl rfl _ _ rfl rfl 30 _ g1.out (infoS2 rfl) rfl S1.out ?_)
      | fail)
    exact bodyPost_ret (results_row_tmp rfl _ _ _ 30 (stc pc (gset g a p) (.slice A n c) rd out st en) _ _ _ rfl rfl g2.out Tryd.underlying30 rfl (infoS2 rfl)) rfl ⟨rfl, HB.out⟩
  · have e0 : (q == 0) = false := beq_eq_false_iff_ne.2 h0
    rw [if_neg h0] at hx
    subst hx
    have cu := fun w => unless_no 2 w
    have CU := Lib.hid cu
    clear cu h0
    go_upto_region 3 with fail
    refine wp_region_still_tail 4 (by kernel_rfl) (by kernel_rfl) ?_
    simp only [List.take_succ_cons, List.take_zero, List.drop_succ_cons, List.drop_zero]
    repeat (first
      | (refine still_row rfl 30 _ rfl _ rfl 30 _ _ _ gk.out Tryd.underlying30 rfl (infoS2 rfl) ?_)
      | still_call (CU.out _)
      | still_step)
    refine wpStill_nil ?_
    go_wp2_with (first
      | (refine wpList_load_row rfl 30 _ rfl _ rfl 30 _ _ _ g0.out Tryd.underlying30 rfl (infoS2 rfl) ?_)
      | (refine wpList_store_rowTo rfl 30 _ _ rfl rfl _ _ rfl rfl 30 _ g1.out (infoS2 rfl) rfl S1.out ?_)
      | fail)
    exact bodyPost_ret (results_row_tmp rfl _ _ _ 30 (stc pc (gset g a p) (.slice A n c) rd out st en) _ _ _ rfl rfl g2.out Tryd.underlying30 rfl (infoS2 rfl)) rfl ⟨rfl, HB.out⟩
set_option maxRecDepth 100000 in
set_option maxHeartbeats 2000000 in
theorem get9_no (pc : Int) (g : Nat → Int) (A : Option Addr) (n c : Nat) (rd : Int) (out : ByteArray) (st en : Int) (inp : ByteArray) {a : Nat} (w : World) (ha : a < 16) (hr : ¬ (0 ≤ rd ∧ rd < (inp.size : Int))) :
    Calls Tryd.prog 37 #[.agg (stc pc g (.slice A n c) rd out st en), .int .i64 (a : Int), .string inp] w fun e w' => e = .returned (.tuple #[.agg (stc pc (gset g a 256) (.slice A n c) rd out st en), .int .i64 0]) ∧ Below w.heap.size w w' := by
  have hk := ((Kx.nil none w).more (.cells (stc pc g (.slice A n c) rd out st en) 30 (0, 0))).add (w.heap.size + 1) (by simp) (.cells #[.int .i64 0, .int .u32 0, .int .u32 0, .int .u32 0, .int .u32 0, .int .u32 0, .int .u32 0, .int .u32 0, .int .u32 0, .int .u32 0, .int .u32 0, .int .u32 0, .int .u32 0, .int .u32 0, .int .u32 0, .int .u32 0, .int .u32 0, .slice none 0 0, .int .i64 0, .string ⟨#[]⟩, .int .i64 0, .int .i64 0] 30 (0, 0))
  obtain ⟨W0, hW0⟩ : ∃ W, (w.alloc (.cells (stc pc g (.slice A n c) rd out st en) 30 (0, 0))).alloc (.cells #[.int .i64 0, .int .u32 0, .int .u32 0, .int .u32 0, .int .u32 0, .int .u32 0, .int .u32 0, .int .u32 0, .int .u32 0, .int .u32 0, .int .u32 0, .int .u32 0, .int .u32 0, .int .u32 0, .int .u32 0, .int .u32 0, .int .u32 0, .slice none 0 0, .int .i64 0, .string ⟨#[]⟩, .int .i64 0, .int .i64 0] 30 (0, 0)) = W := ⟨_, rfl⟩
  rw [hW0] at hk
  have c1 := row_cell (hk.at 0 rfl) 18 (stc_rd _ _ _ _ _ _ _)
  have c2 := row_cell (hk.at 0 rfl) (1 + a) (stc_get pc g (.slice A n c) rd out st en a ha)
  have f2 := row_froz (hk.at 0 rfl) (1 + a)
  have a0 : (0 : Int) ≤ (a : Int) := by omega
  have a1 : (a : Int) < 16 := by omega
  have k1 := hk.putc 0 rfl (.inr (Nat.le_refl _)) (1 + a) (.int .u32 256) (stc_set pc g (.slice A n c) rd out st en a ha 256)
  have hz := k1.putRow 1 rfl (.inr (by omega)) (stc pc (gset g a 256) (.slice A n c) rd out st en)
  have g0 := Lib.hid (k1.at 0 rfl)
  have g1 := Lib.hid (k1.at 1 rfl)
  have g2 := Lib.hid (hz.at 1 rfl)
  have HB := Lib.hid hz.be.plain
  have S1 : Hid ((stc pc (gset g a 256) (.slice A n c) rd out st en).all (·.oneCell') = true) := Lib.hid (stc_one _ _ _ _ _ _ _ _ _)
  clear hk k1 hz
  by_cases h0 : rd < 0
  · have i1 : decide (rd < 0) = true := decide_eq_true h0
    go_enter Tryd.func37, Tryd.ntmps37
    go_upto_region 1 with fail
    go_upto_region 2 with fail
    go_upto_region 3 with fail
    go_wp2_with (first
      | (refine wpList_load_row rfl 30 _ rfl _ rfl 30 _ _ _ g0.out Tryd.underlying30 rfl (infoS2 rfl) ?_)
      | (refine wpList_store_rowTo rfl 30 _ _ rfl rfl _ _ rfl rfl 30 _ g1.out (infoS2 rfl) rfl S1.out ?_)
      | fail)
    exact bodyPost_ret (results_row_tmp rfl _ _ _ 30 (stc pc (gset g a 256) (.slice A n c) rd out st en) _ _ _ rfl rfl g2.out Tryd.underlying30 rfl (infoS2 rfl)) rfl ⟨rfl, HB.out⟩
  · have i1 : decide (rd < 0) = false := decide_eq_false h0
    have i2 : decide ((inp.size : Int) ≤ rd) = true := decide_eq_true (by omega)
    go_enter Tryd.func37, Tryd.ntmps37
    go_upto_region 1 with fail
    go_upto_region 2 with fail
    go_upto_region 3 with fail
    go_wp2_with (first
      | (refine wpList_load_row rfl 30 _ rfl _ rfl 30 _ _ _ g0.out Tryd.underlying30 rfl (infoS2 rfl) ?_)
      | (refine wpList_store_rowTo rfl 30 _ _ rfl rfl _ _ rfl rfl 30 _ g1.out (infoS2 rfl) rfl S1.out ?_)
      | fail)
    exact bodyPost_ret (results_row_tmp rfl _ _ _ 30 (stc pc (gset g a 256) (.slice A n c) rd out st en) _ _ _ rfl rfl g2.out Tryd.underlying30 rfl (infoS2 rfl)) rfl ⟨rfl, HB.out⟩
set_option maxRecDepth 100000 in
set_option maxHeartbeats 2000000 in
theorem get9_yes (pc : Int) (g : Nat → Int) (A : Option Addr) (n c : Nat) (rd : Int) (out : ByteArray) (st en : Int) (inp : ByteArray) {a : Nat} (k : Nat) (u : UInt8) (w : World) (ha : a < 16) (hz : inp.size ≤ 1073741824) (hk : k < inp.size) (hr : rd = (k : Int)) (hu : inp[k] = u) :
    Calls Tryd.prog 37 #[.agg (stc pc g (.slice A n c) rd out st en), .int .i64 (a : Int), .string inp] w fun e w' => e = .returned (.tuple #[.agg (stc pc (gset g a (u.toNat : Int)) (.slice A n c) ((k : Int) + 1) out st en), .int .i64 0]) ∧ Below w.heap.size w w' := by
  subst hr
  have hk9 := ((Kx.nil none w).more (.cells (stc pc g (.slice A n c) (k : Int) out st en) 30 (0, 0))).add (w.heap.size + 1) (by simp) (.cells #[.int .i64 0, .int .u32 0, .int .u32 0, .int .u32 0, .int .u32 0, .int .u32 0, .int .u32 0, .int .u32 0, .int .u32 0, .int .u32 0, .int .u32 0, .int .u32 0, .int .u32 0, .int .u32 0, .int .u32 0, .int .u32 0, .int .u32 0, .slice none 0 0, .int .i64 0, .string ⟨#[]⟩, .int .i64 0, .int .i64 0] 30 (0, 0))
  obtain ⟨W0, hW0⟩ : ∃ W, (w.alloc (.cells (stc pc g (.slice A n c) (k : Int) out st en) 30 (0, 0))).alloc (.cells #[.int .i64 0, .int .u32 0, .int .u32 0, .int .u32 0, .int .u32 0, .int .u32 0, .int .u32 0, .int .u32 0, .int .u32 0, .int .u32 0, .int .u32 0, .int .u32 0, .int .u32 0, .int .u32 0, .int .u32 0, .int .u32 0, .int .u32 0, .slice none 0 0, .int .i64 0, .string ⟨#[]⟩, .int .i64 0, .int .i64 0] 30 (0, 0)) = W := ⟨_, rfl⟩
  rw [hW0] at hk9
  have c1 := row_cell (hk9.at 0 rfl) 18 (stc_rd _ _ _ _ _ _ _)
  have c2 := row_cell (hk9.at 0 rfl) (1 + a) (stc_get pc g (.slice A n c) (k : Int) out st en a ha)
  have f2 := row_froz (hk9.at 0 rfl) (1 + a)
  have a0 : (0 : Int) ≤ (a : Int) := by omega
  have a1 : (a : Int) < 16 := by omega
  have k1 := hk9.putc 0 rfl (.inr (Nat.le_refl _)) (1 + a) (.int .u32 (u.toNat : Int)) (stc_set pc g (.slice A n c) (k : Int) out st en a ha (u.toNat : Int))
  have k2 := k1.putc 0 rfl (.inr (Nat.le_refl _)) 18 (.int .i64 ((k : Int) + 1)) (set_rd _ _ _ _ _ _ _ ((k : Int) + 1))
  have c3 := row_cell (k1.at 0 rfl) 18 (stc_rd _ _ _ _ _ _ _)
  have f3 := row_froz (k1.at 0 rfl) 18
  have hzz := k2.putRow 1 rfl (.inr (by omega)) (stc pc (gset g a (u.toNat : Int)) (.slice A n c) ((k : Int) + 1) out st en)
  have g0 := Lib.hid (k2.at 0 rfl)
  have g1 := Lib.hid (k2.at 1 rfl)
  have g2 := Lib.hid (hzz.at 1 rfl)
  have HB := Lib.hid hzz.be.plain
  have S1 : Hid ((stc pc (gset g a (u.toNat : Int)) (.slice A n c) ((k : Int) + 1) out st en).all (·.oneCell') = true) := Lib.hid (stc_one _ _ _ _ _ _ _ _ _)
  have i0 : (0 : Int) ≤ (k : Int) := by omega
  have i1 : decide ((k : Int) < 0) = false := decide_eq_false (by omega)
  have i2 : decide ((inp.size : Int) ≤ (k : Int)) = false := decide_eq_false (by omega)
  have m1 : (u.toNat : Int) % 4294967296 = (u.toNat : Int) := by have := u.toNat_lt; omega
  have w1 : IntKind.i64.wrap ((k : Int) + 1) = (k : Int) + 1 := by rw [IntKind.wrap_i64]; omega
  clear hk9 k1 k2 hzz
  go_enter Tryd.func37, Tryd.ntmps37
  go_upto_region 1 with fail
  go_upto_region 4 with fail
  go_upto_region 6 with fail
  go_wp2_with (first
    | (refine wpList_load_row rfl 30 _ rfl _ rfl 30 _ _ _ g0.out Tryd.underlying30 rfl (infoS2 rfl) ?_)
    | (refine wpList_store_rowTo rfl 30 _ _ rfl rfl _ _ rfl rfl 30 _ g1.out (infoS2 rfl) rfl S1.out ?_)
    | fail)
  exact bodyPost_ret (results_row_tmp rfl _ _ _ 30 (stc pc (gset g a (u.toNat : Int)) (.slice A n c) ((k : Int) + 1) out st en) _ _ _ rfl rfl g2.out Tryd.underlying30 rfl (infoS2 rfl)) rfl ⟨rfl, HB.out⟩
set_option maxRecDepth 100000 in
set_option maxHeartbeats 2000000 in
theorem put9_no (pc : Int) (g : Nat → Int) (A : Option Addr) (n c : Nat) (rd : Int) (out : ByteArray) (st en : Int) (x : Int) (w : World) (hr : 65536 ≤ out.size) :
    Calls Tryd.prog 38 #[.agg (stc pc g (.slice A n c) rd out st en), .int .u32 x] w fun e w' => e = .returned (.tuple #[.agg (stc pc g (.slice A n c) rd out st en), .int .i64 4]) ∧ Below w.heap.size w w' := by
  have hk := ((Kx.nil none w).more (.cells (stc pc g (.slice A n c) rd out st en) 30 (0, 0))).add (w.heap.size + 1) (by simp) (.cells #[.int .i64 0, .int .u32 0, .int .u32 0, .int .u32 0, .int .u32 0, .int .u32 0, .int .u32 0, .int .u32 0, .int .u32 0, .int .u32 0, .int .u32 0, .int .u32 0, .int .u32 0, .int .u32 0, .int .u32 0, .int .u32 0, .int .u32 0, .slice none 0 0, .int .i64 0, .string ⟨#[]⟩, .int .i64 0, .int .i64 0] 30 (0, 0))
  obtain ⟨W0, hW0⟩ : ∃ W, (w.alloc (.cells (stc pc g (.slice A n c) rd out st en) 30 (0, 0))).alloc (.cells #[.int .i64 0, .int .u32 0, .int .u32 0, .int .u32 0, .int .u32 0, .int .u32 0, .int .u32 0, .int .u32 0, .int .u32 0, .int .u32 0, .int .u32 0, .int .u32 0, .int .u32 0, .int .u32 0, .int .u32 0, .int .u32 0, .int .u32 0, .slice none 0 0, .int .i64 0, .string ⟨#[]⟩, .int .i64 0, .int .i64 0] 30 (0, 0)) = W := ⟨_, rfl⟩
  rw [hW0] at hk
  have c1 := row_cell (hk.at 0 rfl) 19 (stc_out _ _ _ _ _ _ _)
  have i1 : decide ((65536 : Int) ≤ (out.size : Int)) = true := decide_eq_true (by omega)
  have hz := hk.putRow 1 rfl (.inr (by omega)) (stc pc g (.slice A n c) rd out st en)
  have g0 := Lib.hid (hk.at 0 rfl)
  have g1 := Lib.hid (hk.at 1 rfl)
  have g2 := Lib.hid (hz.at 1 rfl)
  have HB := Lib.hid hz.be.plain
  have S1 : Hid ((stc pc g (.slice A n c) rd out st en).all (·.oneCell') = true) := Lib.hid (stc_one _ _ _ _ _ _ _ _ _)
  clear hk hz
  go_enter Tryd.func38, Tryd.ntmps38
  go_upto_region 1 with fail
  go_upto_region 2 with fail
  go_wp2_with (first
    | (refine wpList_load_row rfl 30 _ rfl _ rfl 30 _ _ _ g0.out Tryd.underlying30 rfl (infoS2 rfl) ?_)
    | (refine wpList_store_rowTo rfl 30 _ _ rfl rfl _ _ rfl rfl 30 _ g1.out (infoS2 rfl) rfl S1.out ?_)
    | fail)
  exact bodyPost_ret (results_row_tmp rfl _ _ _ 30 (stc pc g (.slice A n c) rd out st en) _ _ _ rfl rfl g2.out Tryd.underlying30 rfl (infoS2 rfl)) rfl ⟨rfl, HB.out⟩
set_option maxRecDepth 100000 in
set_option maxHeartbeats 2000000 in
theorem put9_yes (pc : Int) (g : Nat → Int) (A : Option Addr) (n c : Nat) (rd : Int) (out : ByteArray) (st en : Int) (x : Int) (w : World) (hr : out.size < 65536) (hx : 0 ≤ x ∧ x < 4294967296) :
    Calls Tryd.prog 38 #[.agg (stc pc g (.slice A n c) rd out st en), .int .u32 x] w fun e w' => e = .returned (.tuple #[.agg (stc pc g (.slice A n c) rd (out ++ ⟨#[byt x]⟩) st en), .int .i64 0]) ∧ Below w.heap.size w w' := by
  have hk := ((Kx.nil none w).more (.cells (stc pc g (.slice A n c) rd out st en) 30 (0, 0))).add (w.heap.size + 1) (by simp) (.cells #[.int .i64 0, .int .u32 0, .int .u32 0, .int .u32 0, .int .u32 0, .int .u32 0, .int .u32 0, .int .u32 0, .int .u32 0, .int .u32 0, .int .u32 0, .int .u32 0, .int .u32 0, .int .u32 0, .int .u32 0, .int .u32 0, .int .u32 0, .slice none 0 0, .int .i64 0, .string ⟨#[]⟩, .int .i64 0, .int .i64 0] 30 (0, 0))
  obtain ⟨W0, hW0⟩ : ∃ W, (w.alloc (.cells (stc pc g (.slice A n c) rd out st en) 30 (0, 0))).alloc (.cells #[.int .i64 0, .int .u32 0, .int .u32 0, .int .u32 0, .int .u32 0, .int .u32 0, .int .u32 0, .int .u32 0, .int .u32 0, .int .u32 0, .int .u32 0, .int .u32 0, .int .u32 0, .int .u32 0, .int .u32 0, .int .u32 0, .int .u32 0, .slice none 0 0, .int .i64 0, .string ⟨#[]⟩, .int .i64 0, .int .i64 0] 30 (0, 0)) = W := ⟨_, rfl⟩
  rw [hW0] at hk
  have k0 := hk.more (.cells #[.int .u8 (x % 256)] 5 (0, 0))
  have k1 := k0.putc 0 rfl (.inr (Nat.le_refl _)) 19 (.string (out ++ ⟨#[byt x]⟩)) (set_out _ _ _ _ _ _ _ (out ++ ⟨#[byt x]⟩))
  have c1 := row_cell (hk.at 0 rfl) 19 (stc_out _ _ _ _ _ _ _)
  have c2 := row_cell (k0.at 0 rfl) 19 (stc_out _ _ _ _ _ _ _)
  have f2 := row_froz (k0.at 0 rfl) 19
  have i1 : decide ((65536 : Int) ≤ (out.size : Int)) = false := decide_eq_false (by omega)
  have i2 : ¬ 9223372036854775807 < out.size + 1 := by omega
  have hcv := one_byt W0 x hx.1
  have hsz : (⟨#[byt x]⟩ : ByteArray).size = 1 := rfl
  have hz := k1.putRow 1 rfl (.inr (by omega)) (stc pc g (.slice A n c) rd (out ++ ⟨#[byt x]⟩) st en)
  have g0 := Lib.hid (k1.at 0 rfl)
  have g1 := Lib.hid (k1.at 1 rfl)
  have g2 := Lib.hid (hz.at 1 rfl)
  have HB := Lib.hid hz.be.plain
  have S1 : Hid ((stc pc g (.slice A n c) rd (out ++ ⟨#[byt x]⟩) st en).all (·.oneCell') = true) := Lib.hid (stc_one _ _ _ _ _ _ _ _ _)
  obtain ⟨D, hD⟩ : ∃ D : ByteArray, ⟨#[byt x]⟩ = D := ⟨_, rfl⟩
  rw [hD] at hcv hsz g0 g1 g2 HB S1 ⊢
  clear hk k0 k1 hz
  go_enter Tryd.func38, Tryd.ntmps38
  go_upto_region 1 with fail
  go_upto_region 3 with fail
  go_upto_region 4 with fail
  go_wp2_with (first
    | (refine wpList_load_row rfl 30 _ rfl _ rfl 30 _ _ _ g0.out Tryd.underlying30 rfl (infoS2 rfl) ?_)
    | (refine wpList_store_rowTo rfl 30 _ _ rfl rfl _ _ rfl rfl 30 _ g1.out (infoS2 rfl) rfl S1.out ?_)
    | fail)
  exact bodyPost_ret (results_row_tmp rfl _ _ _ 30 (stc pc g (.slice A n c) rd (out ++ D) st en) _ _ _ rfl rfl g2.out Tryd.underlying30 rfl (infoS2 rfl)) rfl ⟨rfl, HB.out⟩
end Go.Proofs.YtgojpflkhnaedaaDoor
