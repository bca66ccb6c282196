/- Layer 9 (machine), the program's code: do: li, lui, mov, jmp, jz, jnz, call, ret, chk, halt. -/
import Derived.Test.YtgojpflkhnaedaaDoorMcsA
import Derived.Test.YtgojpflkhnaedaaDoorInsF
set_option linter.unusedVariables false
namespace Go.Proofs.YtgojpflkhnaedaaDoor
open Go.RowKit

theorem lui_or (x c : Int) (hc : 0 ≤ c ∧ c ≤ 65535) : bits .or .u32 (x % 65536) (c * 65536) = x % 65536 + c * 65536 := by
  obtain ⟨k, rfl⟩ : ∃ k : Nat, c = (k : Int) := ⟨c.toNat, by omega⟩
  rw [or_u32 _ _ (by omega) (by omega) (by omega) (by omega)]
  have h := Nat.two_pow_add_eq_or_of_lt (i := 16) (b := (x % 65536).toNat) (by omega) k
  rw [Nat.or_comm, show ((k : Int) * 65536).toNat = 2 ^ 16 * k from by omega, ← h]
  omega
set_option maxRecDepth 100000 in
set_option maxHeartbeats 4000000 in
theorem do9_li (pc : Int) (g : Nat → Int) (A : Option Addr) (n c : Nat) (rd : Int) (out : ByteArray) (st en : Int) {B : Option Addr} {m k : Nat} {d : Int} (inp : ByteArray) {a b : Nat} {cc : Int} (w : World) (ha : a < 16) (hb : b < 16) (hcc : 0 ≤ cc ∧ cc ≤ 65535) (hp : -4611686018427387904 ≤ pc ∧ pc ≤ 4611686018427387904)  :
    Calls Tryd.prog 23 #[.agg #[.slice B m k, .int .i64 d], .string inp, .agg (stc pc g (.slice A n c) rd out st en), .agg #[.int .i64 1, .int .i64 (a : Int), .int .i64 (b : Int), .int .i64 cc]] w fun e w' => e = .returned (.tuple #[.agg (stc (pc + 1) (gset g a cc) (.slice A n c) rd out st en), .int .i64 0]) ∧ Below w.heap.size w w' := by
  have hk := ((((Kx.nil none w).more (.cells #[.slice B m k, .int .i64 d] 24 (0, 0))).add (w.heap.size + 1) (by simp) (.cells (stc pc g (.slice A n c) rd out st en) 30 (0, 0))).add (w.heap.size + 1 + 1) (by simp) (.cells #[.int .i64 1, .int .i64 (a : Int), .int .i64 (b : Int), .int .i64 cc] 40 (0, 0))).add (w.heap.size + 1 + 1 + 1) (by simp) (.cells #[.int .i64 0, .int .u32 0, .int .u32 0, .int .u32 0, .int .u32 0, .int .u32 0, .int .u32 0, .int .u32 0, .int .u32 0, .int .u32 0, .int .u32 0, .int .u32 0, .int .u32 0, .int .u32 0, .int .u32 0, .int .u32 0, .int .u32 0, .slice none 0 0, .int .i64 0, .string ⟨#[]⟩, .int .i64 0, .int .i64 0] 30 (0, 0))
  obtain ⟨W0, hW0⟩ : ∃ W, (((w.alloc (.cells #[.slice B m k, .int .i64 d] 24 (0, 0))).alloc (.cells (stc pc g (.slice A n c) rd out st en) 30 (0, 0))).alloc (.cells #[.int .i64 1, .int .i64 (a : Int), .int .i64 (b : Int), .int .i64 cc] 40 (0, 0))).alloc (.cells #[.int .i64 0, .int .u32 0, .int .u32 0, .int .u32 0, .int .u32 0, .int .u32 0, .int .u32 0, .int .u32 0, .int .u32 0, .int .u32 0, .int .u32 0, .int .u32 0, .int .u32 0, .int .u32 0, .int .u32 0, .int .u32 0, .int .u32 0, .slice none 0 0, .int .i64 0, .string ⟨#[]⟩, .int .i64 0, .int .i64 0] 30 (0, 0)) = W := ⟨_, rfl⟩
  rw [hW0] at hk
  have y1 := row_cell (hk.at 2 rfl) 1 (v := .int .i64 (a : Int)) rfl
  have y3 := row_cell (hk.at 2 rfl) 3 (v := .int .i64 cc) rfl
  have za := row_cell (hk.at 1 rfl) (1 + a) (stc_get pc g (.slice A n c) rd out st en a ha)
  have zp := row_cell (hk.drew.at 1 rfl) 0 (stc_pc pc g (.slice A n c) rd out st en)
  have fp := row_froz (hk.drew.at 1 rfl) 0
  have a0 : (0 : Int) ≤ (a : Int) := by omega
  have a1 : (a : Int) < 16 := by omega
  have e1 : IntKind.u32.wrap cc = cc := by rw [IntKind.wrap_u32]; omega
  have w1 : IntKind.i64.wrap (pc + 1) = pc + 1 := by rw [IntKind.wrap_i64]; omega
  have k1 := (hk.putc 1 rfl (.inr (by omega)) 0 (.int .i64 (pc + 1)) (set_pc pc g (.slice A n c) rd out st en (pc + 1))).drew
  obtain ⟨W1, hW1⟩ : ∃ W, (W0.setCell ⟨w.heap.size + 1, 0, none⟩ (.int .i64 (pc + 1))).drew = W := ⟨_, rfl⟩
  rw [hW1] at k1
  have x0 := row_cell (k1.at 2 rfl) 0 (v := .int .i64 1) rfl
  have x1 := row_cell (k1.at 2 rfl) 1 (v := .int .i64 (a : Int)) rfl
  have xi := row_cell (k1.at 1 rfl) (1 + a) (stc_get (pc + 1) g (.slice A n c) rd out st en a ha)
  have fi := row_froz (k1.at 1 rfl) (1 + a)
  have k2 := k1.putc 1 rfl (.inr (by omega)) (1 + a) (.int .u32 cc) (stc_set (pc + 1) g (.slice A n c) rd out st en a ha cc)
  have hz := k2.putRow 3 rfl (.inr (by omega)) (stc (pc + 1) (gset g a cc) (.slice A n c) rd out st en)
  have g0 := Lib.hid (k2.at 1 rfl)
  have g1 := Lib.hid (k2.at 3 rfl)
  have g2 := Lib.hid (hz.at 3 rfl)
  have HB := Lib.hid hz.be.plain
  have S1 : Hid ((stc (pc + 1) (gset g a cc) (.slice A n c) rd out st en).all (·.oneCell') = true) := Lib.hid (stc_one _ _ _ _ _ _ _ _ _)
  clear hk k1 k2 hz
  go_enter Tryd.func23, Tryd.ntmps23
  go_upto_region 1 with fail
  refine wp_region_still_lit (by kernel_rfl) (by kernel_rfl) ?_
  repeat still_step
  refine wpStill_nil ?_
  go_upto_region 3 with fail
  clear y1 y3 za zp fp
  go_upto_region 6 with fail
  go_upto_region 38 with fail
  go_wp2_with (first
    | (refine wpList_load_row rfl 30 _ rfl _ rfl 30 _ _ _ g0.out Tryd.underlying30 rfl (infoS2 rfl) ?_)
    | (refine wpList_store_rowTo rfl 30 _ _ rfl rfl _ _ rfl rfl 30 _ g1.out (infoS2 rfl) rfl S1.out ?_)
    | fail)
  exact bodyPost_ret (results_row_tmp rfl _ _ _ 30 (stc (pc + 1) (gset g a cc) (.slice A n c) rd out st en) _ _ _ rfl rfl g2.out Tryd.underlying30 rfl (infoS2 rfl)) rfl ⟨rfl, HB.out⟩
set_option maxRecDepth 100000 in
set_option maxHeartbeats 4000000 in
theorem do9_jmp (pc : Int) (g : Nat → Int) (A : Option Addr) (n c : Nat) (rd : Int) (out : ByteArray) (st en : Int) {B : Option Addr} {m k : Nat} {d : Int} (inp : ByteArray) {a b : Nat} {cc : Int} (w : World) (ha : a < 16) (hb : b < 16) (hcc : 0 ≤ cc ∧ cc ≤ 65535) (hp : -4611686018427387904 ≤ pc ∧ pc ≤ 4611686018427387904)  :
    Calls Tryd.prog 23 #[.agg #[.slice B m k, .int .i64 d], .string inp, .agg (stc pc g (.slice A n c) rd out st en), .agg #[.int .i64 18, .int .i64 (a : Int), .int .i64 (b : Int), .int .i64 cc]] w fun e w' => e = .returned (.tuple #[.agg (stc cc g (.slice A n c) rd out st en), .int .i64 0]) ∧ Below w.heap.size w w' := by
  have hk := ((((Kx.nil none w).more (.cells #[.slice B m k, .int .i64 d] 24 (0, 0))).add (w.heap.size + 1) (by simp) (.cells (stc pc g (.slice A n c) rd out st en) 30 (0, 0))).add (w.heap.size + 1 + 1) (by simp) (.cells #[.int .i64 18, .int .i64 (a : Int), .int .i64 (b : Int), .int .i64 cc] 40 (0, 0))).add (w.heap.size + 1 + 1 + 1) (by simp) (.cells #[.int .i64 0, .int .u32 0, .int .u32 0, .int .u32 0, .int .u32 0, .int .u32 0, .int .u32 0, .int .u32 0, .int .u32 0, .int .u32 0, .int .u32 0, .int .u32 0, .int .u32 0, .int .u32 0, .int .u32 0, .int .u32 0, .int .u32 0, .slice none 0 0, .int .i64 0, .string ⟨#[]⟩, .int .i64 0, .int .i64 0] 30 (0, 0))
  obtain ⟨W0, hW0⟩ : ∃ W, (((w.alloc (.cells #[.slice B m k, .int .i64 d] 24 (0, 0))).alloc (.cells (stc pc g (.slice A n c) rd out st en) 30 (0, 0))).alloc (.cells #[.int .i64 18, .int .i64 (a : Int), .int .i64 (b : Int), .int .i64 cc] 40 (0, 0))).alloc (.cells #[.int .i64 0, .int .u32 0, .int .u32 0, .int .u32 0, .int .u32 0, .int .u32 0, .int .u32 0, .int .u32 0, .int .u32 0, .int .u32 0, .int .u32 0, .int .u32 0, .int .u32 0, .int .u32 0, .int .u32 0, .int .u32 0, .int .u32 0, .slice none 0 0, .int .i64 0, .string ⟨#[]⟩, .int .i64 0, .int .i64 0] 30 (0, 0)) = W := ⟨_, rfl⟩
  rw [hW0] at hk
  have y1 := row_cell (hk.at 2 rfl) 1 (v := .int .i64 (a : Int)) rfl
  have y3 := row_cell (hk.at 2 rfl) 3 (v := .int .i64 cc) rfl
  have za := row_cell (hk.at 1 rfl) (1 + a) (stc_get pc g (.slice A n c) rd out st en a ha)
  have zp := row_cell (hk.drew.at 1 rfl) 0 (stc_pc pc g (.slice A n c) rd out st en)
  have fp := row_froz (hk.drew.at 1 rfl) 0
  have a0 : (0 : Int) ≤ (a : Int) := by omega
  have a1 : (a : Int) < 16 := by omega
  have e1 : IntKind.u32.wrap cc = cc := by rw [IntKind.wrap_u32]; omega
  have w1 : IntKind.i64.wrap (pc + 1) = pc + 1 := by rw [IntKind.wrap_i64]; omega
  have k1 := (hk.putc 1 rfl (.inr (by omega)) 0 (.int .i64 (pc + 1)) (set_pc pc g (.slice A n c) rd out st en (pc + 1))).drew
  obtain ⟨W1, hW1⟩ : ∃ W, (W0.setCell ⟨w.heap.size + 1, 0, none⟩ (.int .i64 (pc + 1))).drew = W := ⟨_, rfl⟩
  rw [hW1] at k1
  have x0 := row_cell (k1.at 2 rfl) 0 (v := .int .i64 18) rfl
  have x3 := row_cell (k1.at 2 rfl) 3 (v := .int .i64 cc) rfl
  have xi := row_cell (k1.at 1 rfl) (0) (stc_pc (pc + 1) g (.slice A n c) rd out st en)
  have fi := row_froz (k1.at 1 rfl) (0)
  have k2 := k1.putc 1 rfl (.inr (by omega)) (0) (.int .i64 cc) (set_pc (pc + 1) g (.slice A n c) rd out st en cc)
  have hz := k2.putRow 3 rfl (.inr (by omega)) (stc cc g (.slice A n c) rd out st en)
  have g0 := Lib.hid (k2.at 1 rfl)
  have g1 := Lib.hid (k2.at 3 rfl)
  have g2 := Lib.hid (hz.at 3 rfl)
  have HB := Lib.hid hz.be.plain
  have S1 : Hid ((stc cc g (.slice A n c) rd out st en).all (·.oneCell') = true) := Lib.hid (stc_one _ _ _ _ _ _ _ _ _)
  clear hk k1 k2 hz
  go_enter Tryd.func23, Tryd.ntmps23
  go_upto_region 1 with fail
  refine wp_region_still_lit (by kernel_rfl) (by kernel_rfl) ?_
  repeat still_step
  refine wpStill_nil ?_
  go_upto_region 3 with fail
  clear y1 y3 za zp fp
  go_upto_region 18 with fail
  go_upto_region 38 with fail
  go_wp2_with (first
    | (refine wpList_load_row rfl 30 _ rfl _ rfl 30 _ _ _ g0.out Tryd.underlying30 rfl (infoS2 rfl) ?_)
    | (refine wpList_store_rowTo rfl 30 _ _ rfl rfl _ _ rfl rfl 30 _ g1.out (infoS2 rfl) rfl S1.out ?_)
    | fail)
  exact bodyPost_ret (results_row_tmp rfl _ _ _ 30 (stc cc g (.slice A n c) rd out st en) _ _ _ rfl rfl g2.out Tryd.underlying30 rfl (infoS2 rfl)) rfl ⟨rfl, HB.out⟩
set_option maxRecDepth 100000 in
set_option maxHeartbeats 4000000 in
theorem do9_jz_z (pc : Int) (g : Nat → Int) (A : Option Addr) (n c : Nat) (rd : Int) (out : ByteArray) (st en : Int) {B : Option Addr} {m k : Nat} {d : Int} (inp : ByteArray) {a b : Nat} {cc : Int} (w : World) (ha : a < 16) (hb : b < 16) (hcc : 0 ≤ cc ∧ cc ≤ 65535) (hp : -4611686018427387904 ≤ pc ∧ pc ≤ 4611686018427387904) (hz0 : g a = 0) :
    Calls Tryd.prog 23 #[.agg #[.slice B m k, .int .i64 d], .string inp, .agg (stc pc g (.slice A n c) rd out st en), .agg #[.int .i64 19, .int .i64 (a : Int), .int .i64 (b : Int), .int .i64 cc]] w fun e w' => e = .returned (.tuple #[.agg (stc cc g (.slice A n c) rd out st en), .int .i64 0]) ∧ Below w.heap.size w w' := by
  have hk := ((((Kx.nil none w).more (.cells #[.slice B m k, .int .i64 d] 24 (0, 0))).add (w.heap.size + 1) (by simp) (.cells (stc pc g (.slice A n c) rd out st en) 30 (0, 0))).add (w.heap.size + 1 + 1) (by simp) (.cells #[.int .i64 19, .int .i64 (a : Int), .int .i64 (b : Int), .int .i64 cc] 40 (0, 0))).add (w.heap.size + 1 + 1 + 1) (by simp) (.cells #[.int .i64 0, .int .u32 0, .int .u32 0, .int .u32 0, .int .u32 0, .int .u32 0, .int .u32 0, .int .u32 0, .int .u32 0, .int .u32 0, .int .u32 0, .int .u32 0, .int .u32 0, .int .u32 0, .int .u32 0, .int .u32 0, .int .u32 0, .slice none 0 0, .int .i64 0, .string ⟨#[]⟩, .int .i64 0, .int .i64 0] 30 (0, 0))
  obtain ⟨W0, hW0⟩ : ∃ W, (((w.alloc (.cells #[.slice B m k, .int .i64 d] 24 (0, 0))).alloc (.cells (stc pc g (.slice A n c) rd out st en) 30 (0, 0))).alloc (.cells #[.int .i64 19, .int .i64 (a : Int), .int .i64 (b : Int), .int .i64 cc] 40 (0, 0))).alloc (.cells #[.int .i64 0, .int .u32 0, .int .u32 0, .int .u32 0, .int .u32 0, .int .u32 0, .int .u32 0, .int .u32 0, .int .u32 0, .int .u32 0, .int .u32 0, .int .u32 0, .int .u32 0, .int .u32 0, .int .u32 0, .int .u32 0, .int .u32 0, .slice none 0 0, .int .i64 0, .string ⟨#[]⟩, .int .i64 0, .int .i64 0] 30 (0, 0)) = W := ⟨_, rfl⟩
  rw [hW0] at hk
  have y1 := row_cell (hk.at 2 rfl) 1 (v := .int .i64 (a : Int)) rfl
  have y3 := row_cell (hk.at 2 rfl) 3 (v := .int .i64 cc) rfl
  have za := row_cell (hk.at 1 rfl) (1 + a) (stc_get pc g (.slice A n c) rd out st en a ha)
  have zp := row_cell (hk.drew.at 1 rfl) 0 (stc_pc pc g (.slice A n c) rd out st en)
  have fp := row_froz (hk.drew.at 1 rfl) 0
  have a0 : (0 : Int) ≤ (a : Int) := by omega
  have a1 : (a : Int) < 16 := by omega
  have e1 : IntKind.u32.wrap cc = cc := by rw [IntKind.wrap_u32]; omega
  have w1 : IntKind.i64.wrap (pc + 1) = pc + 1 := by rw [IntKind.wrap_i64]; omega
  have k1 := (hk.putc 1 rfl (.inr (by omega)) 0 (.int .i64 (pc + 1)) (set_pc pc g (.slice A n c) rd out st en (pc + 1))).drew
  obtain ⟨W1, hW1⟩ : ∃ W, (W0.setCell ⟨w.heap.size + 1, 0, none⟩ (.int .i64 (pc + 1))).drew = W := ⟨_, rfl⟩
  rw [hW1] at k1
  have x0 := row_cell (k1.at 2 rfl) 0 (v := .int .i64 19) rfl
  have i1 : (g a == 0) = true := beq_iff_eq.2 hz0
  clear hz0
  have x3 := row_cell (k1.at 2 rfl) 3 (v := .int .i64 cc) rfl
  have xi := row_cell (k1.at 1 rfl) (0) (stc_pc (pc + 1) g (.slice A n c) rd out st en)
  have fi := row_froz (k1.at 1 rfl) (0)
  have k2 := k1.putc 1 rfl (.inr (by omega)) (0) (.int .i64 cc) (set_pc (pc + 1) g (.slice A n c) rd out st en cc)
  have hz := k2.putRow 3 rfl (.inr (by omega)) (stc cc g (.slice A n c) rd out st en)
  have g0 := Lib.hid (k2.at 1 rfl)
  have g1 := Lib.hid (k2.at 3 rfl)
  have g2 := Lib.hid (hz.at 3 rfl)
  have HB := Lib.hid hz.be.plain
  have S1 : Hid ((stc cc g (.slice A n c) rd out st en).all (·.oneCell') = true) := Lib.hid (stc_one _ _ _ _ _ _ _ _ _)
  clear hk k1 k2 hz
  go_enter Tryd.func23, Tryd.ntmps23
  go_upto_region 1 with fail
  refine wp_region_still_lit (by kernel_rfl) (by kernel_rfl) ?_
  repeat still_step
  refine wpStill_nil ?_
  go_upto_region 3 with fail
  clear y1 y3 za zp fp
  go_upto_region 21 with fail
  go_upto_region 38 with fail
  go_wp2_with (first
    | (refine wpList_load_row rfl 30 _ rfl _ rfl 30 _ _ _ g0.out Tryd.underlying30 rfl (infoS2 rfl) ?_)
    | (refine wpList_store_rowTo rfl 30 _ _ rfl rfl _ _ rfl rfl 30 _ g1.out (infoS2 rfl) rfl S1.out ?_)
    | fail)
  exact bodyPost_ret (results_row_tmp rfl _ _ _ 30 (stc cc g (.slice A n c) rd out st en) _ _ _ rfl rfl g2.out Tryd.underlying30 rfl (infoS2 rfl)) rfl ⟨rfl, HB.out⟩
set_option maxRecDepth 100000 in
set_option maxHeartbeats 4000000 in
theorem do9_jz_n (pc : Int) (g : Nat → Int) (A : Option Addr) (n c : Nat) (rd : Int) (out : ByteArray) (st en : Int) {B : Option Addr} {m k : Nat} {d : Int} (inp : ByteArray) {a b : Nat} {cc : Int} (w : World) (ha : a < 16) (hb : b < 16) (hcc : 0 ≤ cc ∧ cc ≤ 65535) (hp : -4611686018427387904 ≤ pc ∧ pc ≤ 4611686018427387904) (hz0 : ¬ g a = 0) :
    Calls Tryd.prog 23 #[.agg #[.slice B m k, .int .i64 d], .string inp, .agg (stc pc g (.slice A n c) rd out st en), .agg #[.int .i64 19, .int .i64 (a : Int), .int .i64 (b : Int), .int .i64 cc]] w fun e w' => e = .returned (.tuple #[.agg (stc (pc + 1) g (.slice A n c) rd out st en), .int .i64 0]) ∧ Below w.heap.size w w' := by
  have hk := ((((Kx.nil none w).more (.cells #[.slice B m k, .int .i64 d] 24 (0, 0))).add (w.heap.size + 1) (by simp) (.cells (stc pc g (.slice A n c) rd out st en) 30 (0, 0))).add (w.heap.size + 1 + 1) (by simp) (.cells #[.int .i64 19, .int .i64 (a : Int), .int .i64 (b : Int), .int .i64 cc] 40 (0, 0))).add (w.heap.size + 1 + 1 + 1) (by simp) (.cells #[.int .i64 0, .int .u32 0, .int .u32 0, .int .u32 0, .int .u32 0, .int .u32 0, .int .u32 0, .int .u32 0, .int .u32 0, .int .u32 0, .int .u32 0, .int .u32 0, .int .u32 0, .int .u32 0, .int .u32 0, .int .u32 0, .int .u32 0, .slice none 0 0, .int .i64 0, .string ⟨#[]⟩, .int .i64 0, .int .i64 0] 30 (0, 0))
  obtain ⟨W0, hW0⟩ : ∃ W, (((w.alloc (.cells #[.slice B m k, .int .i64 d] 24 (0, 0))).alloc (.cells (stc pc g (.slice A n c) rd out st en) 30 (0, 0))).alloc (.cells #[.int .i64 19, .int .i64 (a : Int), .int .i64 (b : Int), .int .i64 cc] 40 (0, 0))).alloc (.cells #[.int .i64 0, .int .u32 0, .int .u32 0, .int .u32 0, .int .u32 0, .int .u32 0, .int .u32 0, .int .u32 0, .int .u32 0, .int .u32 0, .int .u32 0, .int .u32 0, .int .u32 0, .int .u32 0, .int .u32 0, .int .u32 0, .int .u32 0, .slice none 0 0, .int .i64 0, .string ⟨#[]⟩, .int .i64 0, .int .i64 0] 30 (0, 0)) = W := ⟨_, rfl⟩
  rw [hW0] at hk
  have y1 := row_cell (hk.at 2 rfl) 1 (v := .int .i64 (a : Int)) rfl
  have y3 := row_cell (hk.at 2 rfl) 3 (v := .int .i64 cc) rfl
  have za := row_cell (hk.at 1 rfl) (1 + a) (stc_get pc g (.slice A n c) rd out st en a ha)
  have zp := row_cell (hk.drew.at 1 rfl) 0 (stc_pc pc g (.slice A n c) rd out st en)
  have fp := row_froz (hk.drew.at 1 rfl) 0
  have a0 : (0 : Int) ≤ (a : Int) := by omega
  have a1 : (a : Int) < 16 := by omega
  have e1 : IntKind.u32.wrap cc = cc := by rw [IntKind.wrap_u32]; omega
  have w1 : IntKind.i64.wrap (pc + 1) = pc + 1 := by rw [IntKind.wrap_i64]; omega
  have k1 := (hk.putc 1 rfl (.inr (by omega)) 0 (.int .i64 (pc + 1)) (set_pc pc g (.slice A n c) rd out st en (pc + 1))).drew
  obtain ⟨W1, hW1⟩ : ∃ W, (W0.setCell ⟨w.heap.size + 1, 0, none⟩ (.int .i64 (pc + 1))).drew = W := ⟨_, rfl⟩
  rw [hW1] at k1
  have x0 := row_cell (k1.at 2 rfl) 0 (v := .int .i64 19) rfl
  have i1 : (g a == 0) = false := beq_eq_false_iff_ne.2 hz0
  clear hz0
  have hz := k1.putRow 3 rfl (.inr (by omega)) (stc (pc + 1) g (.slice A n c) rd out st en)
  have g0 := Lib.hid (k1.at 1 rfl)
  have g1 := Lib.hid (k1.at 3 rfl)
  have g2 := Lib.hid (hz.at 3 rfl)
  have HB := Lib.hid hz.be.plain
  have S1 : Hid ((stc (pc + 1) g (.slice A n c) rd out st en).all (·.oneCell') = true) := Lib.hid (stc_one _ _ _ _ _ _ _ _ _)
  clear hk k1 hz
  go_enter Tryd.func23, Tryd.ntmps23
  go_upto_region 1 with fail
  refine wp_region_still_lit (by kernel_rfl) (by kernel_rfl) ?_
  repeat still_step
  refine wpStill_nil ?_
  go_upto_region 3 with fail
  clear y1 y3 za zp fp
  go_upto_region 38 with fail
  go_wp2_with (first
    | (refine wpList_load_row rfl 30 _ rfl _ rfl 30 _ _ _ g0.out Tryd.underlying30 rfl (infoS2 rfl) ?_)
    | (refine wpList_store_rowTo rfl 30 _ _ rfl rfl _ _ rfl rfl 30 _ g1.out (infoS2 rfl) rfl S1.out ?_)
    | fail)
  exact bodyPost_ret (results_row_tmp rfl _ _ _ 30 (stc (pc + 1) g (.slice A n c) rd out st en) _ _ _ rfl rfl g2.out Tryd.underlying30 rfl (infoS2 rfl)) rfl ⟨rfl, HB.out⟩
set_option maxRecDepth 100000 in
set_option maxHeartbeats 4000000 in
theorem do9_jnz_z (pc : Int) (g : Nat → Int) (A : Option Addr) (n c : Nat) (rd : Int) (out : ByteArray) (st en : Int) {B : Option Addr} {m k : Nat} {d : Int} (inp : ByteArray) {a b : Nat} {cc : Int} (w : World) (ha : a < 16) (hb : b < 16) (hcc : 0 ≤ cc ∧ cc ≤ 65535) (hp : -4611686018427387904 ≤ pc ∧ pc ≤ 4611686018427387904) (hz0 : g a = 0) :
    Calls Tryd.prog 23 #[.agg #[.slice B m k, .int .i64 d], .string inp, .agg (stc pc g (.slice A n c) rd out st en), .agg #[.int .i64 20, .int .i64 (a : Int), .int .i64 (b : Int), .int .i64 cc]] w fun e w' => e = .returned (.tuple #[.agg (stc (pc + 1) g (.slice A n c) rd out st en), .int .i64 0]) ∧ Below w.heap.size w w' := by
  have hk := ((((Kx.nil none w).more (.cells #[.slice B m k, .int .i64 d] 24 (0, 0))).add (w.heap.size + 1) (by simp) (.cells (stc pc g (.slice A n c) rd out st en) 30 (0, 0))).add (w.heap.size + 1 + 1) (by simp) (.cells #[.int .i64 20, .int .i64 (a : Int), .int .i64 (b : Int), .int .i64 cc] 40 (0, 0))).add (w.heap.size + 1 + 1 + 1) (by simp) (.cells #[.int .i64 0, .int .u32 0, .int .u32 0, .int .u32 0, .int .u32 0, .int .u32 0, .int .u32 0, .int .u32 0, .int .u32 0, .int .u32 0, .int .u32 0, .int .u32 0, .int .u32 0, .int .u32 0, .int .u32 0, .int .u32 0, .int .u32 0, .slice none 0 0, .int .i64 0, .string ⟨#[]⟩, .int .i64 0, .int .i64 0] 30 (0, 0))
  obtain ⟨W0, hW0⟩ : ∃ W, (((w.alloc (.cells #[.slice B m k, .int .i64 d] 24 (0, 0))).alloc (.cells (stc pc g (.slice A n c) rd out st en) 30 (0, 0))).alloc (.cells #[.int .i64 20, .int .i64 (a : Int), .int .i64 (b : Int), .int .i64 cc] 40 (0, 0))).alloc (.cells #[.int .i64 0, .int .u32 0, .int .u32 0, .int .u32 0, .int .u32 0, .int .u32 0, .int .u32 0, .int .u32 0, .int .u32 0, .int .u32 0, .int .u32 0, .int .u32 0, .int .u32 0, .int .u32 0, .int .u32 0, .int .u32 0, .int .u32 0, .slice none 0 0, .int .i64 0, .string ⟨#[]⟩, .int .i64 0, .int .i64 0] 30 (0, 0)) = W := ⟨_, rfl⟩
  rw [hW0] at hk
  have y1 := row_cell (hk.at 2 rfl) 1 (v := .int .i64 (a : Int)) rfl
  have y3 := row_cell (hk.at 2 rfl) 3 (v := .int .i64 cc) rfl
  have za := row_cell (hk.at 1 rfl) (1 + a) (stc_get pc g (.slice A n c) rd out st en a ha)
  have zp := row_cell (hk.drew.at 1 rfl) 0 (stc_pc pc g (.slice A n c) rd out st en)
  have fp := row_froz (hk.drew.at 1 rfl) 0
  have a0 : (0 : Int) ≤ (a : Int) := by omega
  have a1 : (a : Int) < 16 := by omega
  have e1 : IntKind.u32.wrap cc = cc := by rw [IntKind.wrap_u32]; omega
  have w1 : IntKind.i64.wrap (pc + 1) = pc + 1 := by rw [IntKind.wrap_i64]; omega
  have k1 := (hk.putc 1 rfl (.inr (by omega)) 0 (.int .i64 (pc + 1)) (set_pc pc g (.slice A n c) rd out st en (pc + 1))).drew
  obtain ⟨W1, hW1⟩ : ∃ W, (W0.setCell ⟨w.heap.size + 1, 0, none⟩ (.int .i64 (pc + 1))).drew = W := ⟨_, rfl⟩
  rw [hW1] at k1
  have x0 := row_cell (k1.at 2 rfl) 0 (v := .int .i64 20) rfl
  have i1 : (g a != 0) = false := by rw [hz0]; rfl
  clear hz0
  have hz := k1.putRow 3 rfl (.inr (by omega)) (stc (pc + 1) g (.slice A n c) rd out st en)
  have g0 := Lib.hid (k1.at 1 rfl)
  have g1 := Lib.hid (k1.at 3 rfl)
  have g2 := Lib.hid (hz.at 3 rfl)
  have HB := Lib.hid hz.be.plain
  have S1 : Hid ((stc (pc + 1) g (.slice A n c) rd out st en).all (·.oneCell') = true) := Lib.hid (stc_one _ _ _ _ _ _ _ _ _)
  clear hk k1 hz
  go_enter Tryd.func23, Tryd.ntmps23
  go_upto_region 1 with fail
  refine wp_region_still_lit (by kernel_rfl) (by kernel_rfl) ?_
  repeat still_step
  refine wpStill_nil ?_
  go_upto_region 3 with fail
  clear y1 y3 za zp fp
  go_upto_region 38 with fail
  go_wp2_with (first
    | (refine wpList_load_row rfl 30 _ rfl _ rfl 30 _ _ _ g0.out Tryd.underlying30 rfl (infoS2 rfl) ?_)
    | (refine wpList_store_rowTo rfl 30 _ _ rfl rfl _ _ rfl rfl 30 _ g1.out (infoS2 rfl) rfl S1.out ?_)
    | fail)
  exact bodyPost_ret (results_row_tmp rfl _ _ _ 30 (stc (pc + 1) g (.slice A n c) rd out st en) _ _ _ rfl rfl g2.out Tryd.underlying30 rfl (infoS2 rfl)) rfl ⟨rfl, HB.out⟩
set_option maxRecDepth 100000 in
set_option maxHeartbeats 4000000 in
theorem do9_jnz_n (pc : Int) (g : Nat → Int) (A : Option Addr) (n c : Nat) (rd : Int) (out : ByteArray) (st en : Int) {B : Option Addr} {m k : Nat} {d : Int} (inp : ByteArray) {a b : Nat} {cc : Int} (w : World) (ha : a < 16) (hb : b < 16) (hcc : 0 ≤ cc ∧ cc ≤ 65535) (hp : -4611686018427387904 ≤ pc ∧ pc ≤ 4611686018427387904) (hz0 : ¬ g a = 0) :
    Calls Tryd.prog 23 #[.agg #[.slice B m k, .int .i64 d], .string inp, .agg (stc pc g (.slice A n c) rd out st en), .agg #[.int .i64 20, .int .i64 (a : Int), .int .i64 (b : Int), .int .i64 cc]] w fun e w' => e = .returned (.tuple #[.agg (stc cc g (.slice A n c) rd out st en), .int .i64 0]) ∧ Below w.heap.size w w' := by
  have hk := ((((Kx.nil none w).more (.cells #[.slice B m k, .int .i64 d] 24 (0, 0))).add (w.heap.size + 1) (by simp) (.cells (stc pc g (.slice A n c) rd out st en) 30 (0, 0))).add (w.heap.size + 1 + 1) (by simp) (.cells #[.int .i64 20, .int .i64 (a : Int), .int .i64 (b : Int), .int .i64 cc] 40 (0, 0))).add (w.heap.size + 1 + 1 + 1) (by simp) (.cells #[.int .i64 0, .int .u32 0, .int .u32 0, .int .u32 0, .int .u32 0, .int .u32 0, .int .u32 0, .int .u32 0, .int .u32 0, .int .u32 0, .int .u32 0, .int .u32 0, .int .u32 0, .int .u32 0, .int .u32 0, .int .u32 0, .int .u32 0, .slice none 0 0, .int .i64 0, .string ⟨#[]⟩, .int .i64 0, .int .i64 0] 30 (0, 0))
  obtain ⟨W0, hW0⟩ : ∃ W, (((w.alloc (.cells #[.slice B m k, .int .i64 d] 24 (0, 0))).alloc (.cells (stc pc g (.slice A n c) rd out st en) 30 (0, 0))).alloc (.cells #[.int .i64 20, .int .i64 (a : Int), .int .i64 (b : Int), .int .i64 cc] 40 (0, 0))).alloc (.cells #[.int .i64 0, .int .u32 0, .int .u32 0, .int .u32 0, .int .u32 0, .int .u32 0, .int .u32 0, .int .u32 0, .int .u32 0, .int .u32 0, .int .u32 0, .int .u32 0, .int .u32 0, .int .u32 0, .int .u32 0, .int .u32 0, .int .u32 0, .slice none 0 0, .int .i64 0, .string ⟨#[]⟩, .int .i64 0, .int .i64 0] 30 (0, 0)) = W := ⟨_, rfl⟩
  rw [hW0] at hk
  have y1 := row_cell (hk.at 2 rfl) 1 (v := .int .i64 (a : Int)) rfl
  have y3 := row_cell (hk.at 2 rfl) 3 (v := .int .i64 cc) rfl
  have za := row_cell (hk.at 1 rfl) (1 + a) (stc_get pc g (.slice A n c) rd out st en a ha)
  have zp := row_cell (hk.drew.at 1 rfl) 0 (stc_pc pc g (.slice A n c) rd out st en)
  have fp := row_froz (hk.drew.at 1 rfl) 0
  have a0 : (0 : Int) ≤ (a : Int) := by omega
  have a1 : (a : Int) < 16 := by omega
  have e1 : IntKind.u32.wrap cc = cc := by rw [IntKind.wrap_u32]; omega
  have w1 : IntKind.i64.wrap (pc + 1) = pc + 1 := by rw [IntKind.wrap_i64]; omega
  have k1 := (hk.putc 1 rfl (.inr (by omega)) 0 (.int .i64 (pc + 1)) (set_pc pc g (.slice A n c) rd out st en (pc + 1))).drew
  obtain ⟨W1, hW1⟩ : ∃ W, (W0.setCell ⟨w.heap.size + 1, 0, none⟩ (.int .i64 (pc + 1))).drew = W := ⟨_, rfl⟩
  rw [hW1] at k1
  have x0 := row_cell (k1.at 2 rfl) 0 (v := .int .i64 20) rfl
  have i1 : (g a != 0) = true := bne_iff_ne.2 hz0
  clear hz0
  have x3 := row_cell (k1.at 2 rfl) 3 (v := .int .i64 cc) rfl
  have xi := row_cell (k1.at 1 rfl) (0) (stc_pc (pc + 1) g (.slice A n c) rd out st en)
  have fi := row_froz (k1.at 1 rfl) (0)
  have k2 := k1.putc 1 rfl (.inr (by omega)) (0) (.int .i64 cc) (set_pc (pc + 1) g (.slice A n c) rd out st en cc)
  have hz := k2.putRow 3 rfl (.inr (by omega)) (stc cc g (.slice A n c) rd out st en)
  have g0 := Lib.hid (k2.at 1 rfl)
  have g1 := Lib.hid (k2.at 3 rfl)
  have g2 := Lib.hid (hz.at 3 rfl)
  have HB := Lib.hid hz.be.plain
  have S1 : Hid ((stc cc g (.slice A n c) rd out st en).all (·.oneCell') = true) := Lib.hid (stc_one _ _ _ _ _ _ _ _ _)
  clear hk k1 k2 hz
  go_enter Tryd.func23, Tryd.ntmps23
  go_upto_region 1 with fail
  refine wp_region_still_lit (by kernel_rfl) (by kernel_rfl) ?_
  repeat still_step
  refine wpStill_nil ?_
  go_upto_region 3 with fail
  clear y1 y3 za zp fp
  go_upto_region 24 with fail
  go_upto_region 38 with fail
  go_wp2_with (first
    | (refine wpList_load_row rfl 30 _ rfl _ rfl 30 _ _ _ g0.out Tryd.underlying30 rfl (infoS2 rfl) ?_)
    | (refine wpList_store_rowTo rfl 30 _ _ rfl rfl _ _ rfl rfl 30 _ g1.out (infoS2 rfl) rfl S1.out ?_)
    | fail)
  exact bodyPost_ret (results_row_tmp rfl _ _ _ 30 (stc cc g (.slice A n c) rd out st en) _ _ _ rfl rfl g2.out Tryd.underlying30 rfl (infoS2 rfl)) rfl ⟨rfl, HB.out⟩
set_option maxRecDepth 100000 in
set_option maxHeartbeats 4000000 in
theorem do9_ret (pc : Int) (g : Nat → Int) (A : Option Addr) (n c : Nat) (rd : Int) (out : ByteArray) (st en : Int) {B : Option Addr} {m k : Nat} {d : Int} (inp : ByteArray) {a b : Nat} {cc : Int} (w : World) (ha : a < 16) (hb : b < 16) (hcc : 0 ≤ cc ∧ cc ≤ 65535) (hp : -4611686018427387904 ≤ pc ∧ pc ≤ 4611686018427387904) (hav : 0 ≤ g a ∧ g a < 4294967296) :
    Calls Tryd.prog 23 #[.agg #[.slice B m k, .int .i64 d], .string inp, .agg (stc pc g (.slice A n c) rd out st en), .agg #[.int .i64 22, .int .i64 (a : Int), .int .i64 (b : Int), .int .i64 cc]] w fun e w' => e = .returned (.tuple #[.agg (stc (g a) g (.slice A n c) rd out st en), .int .i64 0]) ∧ Below w.heap.size w w' := by
  have hk := ((((Kx.nil none w).more (.cells #[.slice B m k, .int .i64 d] 24 (0, 0))).add (w.heap.size + 1) (by simp) (.cells (stc pc g (.slice A n c) rd out st en) 30 (0, 0))).add (w.heap.size + 1 + 1) (by simp) (.cells #[.int .i64 22, .int .i64 (a : Int), .int .i64 (b : Int), .int .i64 cc] 40 (0, 0))).add (w.heap.size + 1 + 1 + 1) (by simp) (.cells #[.int .i64 0, .int .u32 0, .int .u32 0, .int .u32 0, .int .u32 0, .int .u32 0, .int .u32 0, .int .u32 0, .int .u32 0, .int .u32 0, .int .u32 0, .int .u32 0, .int .u32 0, .int .u32 0, .int .u32 0, .int .u32 0, .int .u32 0, .slice none 0 0, .int .i64 0, .string ⟨#[]⟩, .int .i64 0, .int .i64 0] 30 (0, 0))
  obtain ⟨W0, hW0⟩ : ∃ W, (((w.alloc (.cells #[.slice B m k, .int .i64 d] 24 (0, 0))).alloc (.cells (stc pc g (.slice A n c) rd out st en) 30 (0, 0))).alloc (.cells #[.int .i64 22, .int .i64 (a : Int), .int .i64 (b : Int), .int .i64 cc] 40 (0, 0))).alloc (.cells #[.int .i64 0, .int .u32 0, .int .u32 0, .int .u32 0, .int .u32 0, .int .u32 0, .int .u32 0, .int .u32 0, .int .u32 0, .int .u32 0, .int .u32 0, .int .u32 0, .int .u32 0, .int .u32 0, .int .u32 0, .int .u32 0, .int .u32 0, .slice none 0 0, .int .i64 0, .string ⟨#[]⟩, .int .i64 0, .int .i64 0] 30 (0, 0)) = W := ⟨_, rfl⟩
  rw [hW0] at hk
  have y1 := row_cell (hk.at 2 rfl) 1 (v := .int .i64 (a : Int)) rfl
  have y3 := row_cell (hk.at 2 rfl) 3 (v := .int .i64 cc) rfl
  have za := row_cell (hk.at 1 rfl) (1 + a) (stc_get pc g (.slice A n c) rd out st en a ha)
  have zp := row_cell (hk.drew.at 1 rfl) 0 (stc_pc pc g (.slice A n c) rd out st en)
  have fp := row_froz (hk.drew.at 1 rfl) 0
  have a0 : (0 : Int) ≤ (a : Int) := by omega
  have a1 : (a : Int) < 16 := by omega
  have e1 : IntKind.u32.wrap cc = cc := by rw [IntKind.wrap_u32]; omega
  have w1 : IntKind.i64.wrap (pc + 1) = pc + 1 := by rw [IntKind.wrap_i64]; omega
  have k1 := (hk.putc 1 rfl (.inr (by omega)) 0 (.int .i64 (pc + 1)) (set_pc pc g (.slice A n c) rd out st en (pc + 1))).drew
  obtain ⟨W1, hW1⟩ : ∃ W, (W0.setCell ⟨w.heap.size + 1, 0, none⟩ (.int .i64 (pc + 1))).drew = W := ⟨_, rfl⟩
  rw [hW1] at k1
  have x0 := row_cell (k1.at 2 rfl) 0 (v := .int .i64 22) rfl
  have w2 : IntKind.i64.wrap (g a) = g a := by rw [IntKind.wrap_i64]; omega
  have xi := row_cell (k1.at 1 rfl) (0) (stc_pc (pc + 1) g (.slice A n c) rd out st en)
  have fi := row_froz (k1.at 1 rfl) (0)
  have k2 := k1.putc 1 rfl (.inr (by omega)) (0) (.int .i64 (g a)) (set_pc (pc + 1) g (.slice A n c) rd out st en (g a))
  have hz := k2.putRow 3 rfl (.inr (by omega)) (stc (g a) g (.slice A n c) rd out st en)
  have g0 := Lib.hid (k2.at 1 rfl)
  have g1 := Lib.hid (k2.at 3 rfl)
  have g2 := Lib.hid (hz.at 3 rfl)
  have HB := Lib.hid hz.be.plain
  have S1 : Hid ((stc (g a) g (.slice A n c) rd out st en).all (·.oneCell') = true) := Lib.hid (stc_one _ _ _ _ _ _ _ _ _)
  clear hk k1 k2 hz
  go_enter Tryd.func23, Tryd.ntmps23
  go_upto_region 1 with fail
  refine wp_region_still_lit (by kernel_rfl) (by kernel_rfl) ?_
  repeat still_step
  refine wpStill_nil ?_
  go_upto_region 3 with fail
  clear y1 y3 za zp fp
  go_upto_region 29 with fail
  go_upto_region 38 with fail
  go_wp2_with (first
    | (refine wpList_load_row rfl 30 _ rfl _ rfl 30 _ _ _ g0.out Tryd.underlying30 rfl (infoS2 rfl) ?_)
    | (refine wpList_store_rowTo rfl 30 _ _ rfl rfl _ _ rfl rfl 30 _ g1.out (infoS2 rfl) rfl S1.out ?_)
    | fail)
  exact bodyPost_ret (results_row_tmp rfl _ _ _ 30 (stc (g a) g (.slice A n c) rd out st en) _ _ _ rfl rfl g2.out Tryd.underlying30 rfl (infoS2 rfl)) rfl ⟨rfl, HB.out⟩
set_option maxRecDepth 100000 in
set_option maxHeartbeats 4000000 in
theorem do9_call (pc : Int) (g : Nat → Int) (A : Option Addr) (n c : Nat) (rd : Int) (out : ByteArray) (st en : Int) {B : Option Addr} {m k : Nat} {d : Int} (inp : ByteArray) (z : Int) {a b : Nat} {cc : Int} (w : World) (ha : a < 16) (hb : b < 16) (hcc : 0 ≤ cc ∧ cc ≤ 65535) (hp : -4611686018427387904 ≤ pc ∧ pc ≤ 4611686018427387904) (hz9 : (pc + 1) % 4294967296 = z) :
    Calls Tryd.prog 23 #[.agg #[.slice B m k, .int .i64 d], .string inp, .agg (stc pc g (.slice A n c) rd out st en), .agg #[.int .i64 21, .int .i64 (a : Int), .int .i64 (b : Int), .int .i64 cc]] w fun e w' => e = .returned (.tuple #[.agg (stc cc (gset g a z) (.slice A n c) rd out st en), .int .i64 0]) ∧ Below w.heap.size w w' := by
  have hk := ((((Kx.nil none w).more (.cells #[.slice B m k, .int .i64 d] 24 (0, 0))).add (w.heap.size + 1) (by simp) (.cells (stc pc g (.slice A n c) rd out st en) 30 (0, 0))).add (w.heap.size + 1 + 1) (by simp) (.cells #[.int .i64 21, .int .i64 (a : Int), .int .i64 (b : Int), .int .i64 cc] 40 (0, 0))).add (w.heap.size + 1 + 1 + 1) (by simp) (.cells #[.int .i64 0, .int .u32 0, .int .u32 0, .int .u32 0, .int .u32 0, .int .u32 0, .int .u32 0, .int .u32 0, .int .u32 0, .int .u32 0, .int .u32 0, .int .u32 0, .int .u32 0, .int .u32 0, .int .u32 0, .int .u32 0, .int .u32 0, .slice none 0 0, .int .i64 0, .string ⟨#[]⟩, .int .i64 0, .int .i64 0] 30 (0, 0))
  obtain ⟨W0, hW0⟩ : ∃ W, (((w.alloc (.cells #[.slice B m k, .int .i64 d] 24 (0, 0))).alloc (.cells (stc pc g (.slice A n c) rd out st en) 30 (0, 0))).alloc (.cells #[.int .i64 21, .int .i64 (a : Int), .int .i64 (b : Int), .int .i64 cc] 40 (0, 0))).alloc (.cells #[.int .i64 0, .int .u32 0, .int .u32 0, .int .u32 0, .int .u32 0, .int .u32 0, .int .u32 0, .int .u32 0, .int .u32 0, .int .u32 0, .int .u32 0, .int .u32 0, .int .u32 0, .int .u32 0, .int .u32 0, .int .u32 0, .int .u32 0, .slice none 0 0, .int .i64 0, .string ⟨#[]⟩, .int .i64 0, .int .i64 0] 30 (0, 0)) = W := ⟨_, rfl⟩
  rw [hW0] at hk
  have y1 := row_cell (hk.at 2 rfl) 1 (v := .int .i64 (a : Int)) rfl
  have y3 := row_cell (hk.at 2 rfl) 3 (v := .int .i64 cc) rfl
  have za := row_cell (hk.at 1 rfl) (1 + a) (stc_get pc g (.slice A n c) rd out st en a ha)
  have zp := row_cell (hk.drew.at 1 rfl) 0 (stc_pc pc g (.slice A n c) rd out st en)
  have fp := row_froz (hk.drew.at 1 rfl) 0
  have a0 : (0 : Int) ≤ (a : Int) := by omega
  have a1 : (a : Int) < 16 := by omega
  have e1 : IntKind.u32.wrap cc = cc := by rw [IntKind.wrap_u32]; omega
  have w1 : IntKind.i64.wrap (pc + 1) = pc + 1 := by rw [IntKind.wrap_i64]; omega
  have k1 := (hk.putc 1 rfl (.inr (by omega)) 0 (.int .i64 (pc + 1)) (set_pc pc g (.slice A n c) rd out st en (pc + 1))).drew
  obtain ⟨W1, hW1⟩ : ∃ W, (W0.setCell ⟨w.heap.size + 1, 0, none⟩ (.int .i64 (pc + 1))).drew = W := ⟨_, rfl⟩
  rw [hW1] at k1
  have x0 := row_cell (k1.at 2 rfl) 0 (v := .int .i64 21) rfl
  have x1 := row_cell (k1.at 2 rfl) 1 (v := .int .i64 (a : Int)) rfl
  have x2 := row_cell (k1.at 1 rfl) 0 (stc_pc (pc + 1) g (.slice A n c) rd out st en)
  have xi := row_cell (k1.at 1 rfl) (1 + a) (stc_get (pc + 1) g (.slice A n c) rd out st en a ha)
  have fi := row_froz (k1.at 1 rfl) (1 + a)
  have k2 := k1.putc 1 rfl (.inr (by omega)) (1 + a) (.int .u32 z) (stc_set (pc + 1) g (.slice A n c) rd out st en a ha z)
  have x3 := row_cell (k2.at 2 rfl) 3 (v := .int .i64 cc) rfl
  have xj := row_cell (k2.at 1 rfl) 0 (stc_pc (pc + 1) (gset g a z) (.slice A n c) rd out st en)
  have fj := row_froz (k2.at 1 rfl) 0
  have k3 := k2.putc 1 rfl (.inr (by omega)) 0 (.int .i64 cc) (set_pc (pc + 1) (gset g a z) (.slice A n c) rd out st en cc)
  have hz := k3.putRow 3 rfl (.inr (by omega)) (stc cc (gset g a z) (.slice A n c) rd out st en)
  have g0 := Lib.hid (k3.at 1 rfl)
  have g1 := Lib.hid (k3.at 3 rfl)
  have g2 := Lib.hid (hz.at 3 rfl)
  have HB := Lib.hid hz.be.plain
  have S1 : Hid ((stc cc (gset g a z) (.slice A n c) rd out st en).all (·.oneCell') = true) := Lib.hid (stc_one _ _ _ _ _ _ _ _ _)
  clear hk k1 k2 k3 hz
  go_enter Tryd.func23, Tryd.ntmps23
  go_upto_region 1 with fail
  refine wp_region_still_lit (by kernel_rfl) (by kernel_rfl) ?_
  repeat still_step
  refine wpStill_nil ?_
  go_upto_region 3 with fail
  clear y1 y3 za zp fp
  go_upto_region 26 with fail
  go_upto_region 38 with fail
  go_wp2_with (first
    | (refine wpList_load_row rfl 30 _ rfl _ rfl 30 _ _ _ g0.out Tryd.underlying30 rfl (infoS2 rfl) ?_)
    | (refine wpList_store_rowTo rfl 30 _ _ rfl rfl _ _ rfl rfl 30 _ g1.out (infoS2 rfl) rfl S1.out ?_)
    | fail)
  exact bodyPost_ret (results_row_tmp rfl _ _ _ 30 (stc cc (gset g a z) (.slice A n c) rd out st en) _ _ _ rfl rfl g2.out Tryd.underlying30 rfl (infoS2 rfl)) rfl ⟨rfl, HB.out⟩
set_option maxRecDepth 100000 in
set_option maxHeartbeats 4000000 in
theorem do9_lui (pc : Int) (g : Nat → Int) (A : Option Addr) (n c : Nat) (rd : Int) (out : ByteArray) (st en : Int) {B : Option Addr} {m k : Nat} {d : Int} (inp : ByteArray) {a b : Nat} {cc : Int} (w : World) (ha : a < 16) (hb : b < 16) (hcc : 0 ≤ cc ∧ cc ≤ 65535) (hp : -4611686018427387904 ≤ pc ∧ pc ≤ 4611686018427387904) (hav : 0 ≤ g a ∧ g a < 4294967296) :
    Calls Tryd.prog 23 #[.agg #[.slice B m k, .int .i64 d], .string inp, .agg (stc pc g (.slice A n c) rd out st en), .agg #[.int .i64 2, .int .i64 (a : Int), .int .i64 (b : Int), .int .i64 cc]] w fun e w' => e = .returned (.tuple #[.agg (stc (pc + 1) (gset g a (g a % 65536 + cc * 65536)) (.slice A n c) rd out st en), .int .i64 0]) ∧ Below w.heap.size w w' := by
  have hk := ((((Kx.nil none w).more (.cells #[.slice B m k, .int .i64 d] 24 (0, 0))).add (w.heap.size + 1) (by simp) (.cells (stc pc g (.slice A n c) rd out st en) 30 (0, 0))).add (w.heap.size + 1 + 1) (by simp) (.cells #[.int .i64 2, .int .i64 (a : Int), .int .i64 (b : Int), .int .i64 cc] 40 (0, 0))).add (w.heap.size + 1 + 1 + 1) (by simp) (.cells #[.int .i64 0, .int .u32 0, .int .u32 0, .int .u32 0, .int .u32 0, .int .u32 0, .int .u32 0, .int .u32 0, .int .u32 0, .int .u32 0, .int .u32 0, .int .u32 0, .int .u32 0, .int .u32 0, .int .u32 0, .int .u32 0, .int .u32 0, .slice none 0 0, .int .i64 0, .string ⟨#[]⟩, .int .i64 0, .int .i64 0] 30 (0, 0))
  obtain ⟨W0, hW0⟩ : ∃ W, (((w.alloc (.cells #[.slice B m k, .int .i64 d] 24 (0, 0))).alloc (.cells (stc pc g (.slice A n c) rd out st en) 30 (0, 0))).alloc (.cells #[.int .i64 2, .int .i64 (a : Int), .int .i64 (b : Int), .int .i64 cc] 40 (0, 0))).alloc (.cells #[.int .i64 0, .int .u32 0, .int .u32 0, .int .u32 0, .int .u32 0, .int .u32 0, .int .u32 0, .int .u32 0, .int .u32 0, .int .u32 0, .int .u32 0, .int .u32 0, .int .u32 0, .int .u32 0, .int .u32 0, .int .u32 0, .int .u32 0, .slice none 0 0, .int .i64 0, .string ⟨#[]⟩, .int .i64 0, .int .i64 0] 30 (0, 0)) = W := ⟨_, rfl⟩
  rw [hW0] at hk
  have y1 := row_cell (hk.at 2 rfl) 1 (v := .int .i64 (a : Int)) rfl
  have y3 := row_cell (hk.at 2 rfl) 3 (v := .int .i64 cc) rfl
  have za := row_cell (hk.at 1 rfl) (1 + a) (stc_get pc g (.slice A n c) rd out st en a ha)
  have zp := row_cell (hk.drew.at 1 rfl) 0 (stc_pc pc g (.slice A n c) rd out st en)
  have fp := row_froz (hk.drew.at 1 rfl) 0
  have a0 : (0 : Int) ≤ (a : Int) := by omega
  have a1 : (a : Int) < 16 := by omega
  have e1 : IntKind.u32.wrap cc = cc := by rw [IntKind.wrap_u32]; omega
  have w1 : IntKind.i64.wrap (pc + 1) = pc + 1 := by rw [IntKind.wrap_i64]; omega
  have k1 := (hk.putc 1 rfl (.inr (by omega)) 0 (.int .i64 (pc + 1)) (set_pc pc g (.slice A n c) rd out st en (pc + 1))).drew
  obtain ⟨W1, hW1⟩ : ∃ W, (W0.setCell ⟨w.heap.size + 1, 0, none⟩ (.int .i64 (pc + 1))).drew = W := ⟨_, rfl⟩
  rw [hW1] at k1
  have x0 := row_cell (k1.at 2 rfl) 0 (v := .int .i64 2) rfl
  have x1 := row_cell (k1.at 2 rfl) 1 (v := .int .i64 (a : Int)) rfl
  have f1 := low65535 (g a) hav.1 hav.2
  have f2 : (cc * 65536) % 4294967296 = cc * 65536 := by omega
  have f3 := lui_or (g a) cc hcc
  have xi := row_cell (k1.at 1 rfl) (1 + a) (stc_get (pc + 1) g (.slice A n c) rd out st en a ha)
  have fi := row_froz (k1.at 1 rfl) (1 + a)
  have k2 := k1.putc 1 rfl (.inr (by omega)) (1 + a) (.int .u32 (g a % 65536 + cc * 65536)) (stc_set (pc + 1) g (.slice A n c) rd out st en a ha (g a % 65536 + cc * 65536))
  have hz := k2.putRow 3 rfl (.inr (by omega)) (stc (pc + 1) (gset g a (g a % 65536 + cc * 65536)) (.slice A n c) rd out st en)
  have g0 := Lib.hid (k2.at 1 rfl)
  have g1 := Lib.hid (k2.at 3 rfl)
  have g2 := Lib.hid (hz.at 3 rfl)
  have HB := Lib.hid hz.be.plain
  have S1 : Hid ((stc (pc + 1) (gset g a (g a % 65536 + cc * 65536)) (.slice A n c) rd out st en).all (·.oneCell') = true) := Lib.hid (stc_one _ _ _ _ _ _ _ _ _)
  clear hk k1 k2 hz
  go_enter Tryd.func23, Tryd.ntmps23
  go_upto_region 1 with fail
  refine wp_region_still_lit (by kernel_rfl) (by kernel_rfl) ?_
  repeat still_step
  refine wpStill_nil ?_
  go_upto_region 3 with fail
  clear y1 y3 za zp fp
  go_upto_region 8 with fail
  go_upto_region 38 with fail
  go_wp2_with (first
    | (refine wpList_load_row rfl 30 _ rfl _ rfl 30 _ _ _ g0.out Tryd.underlying30 rfl (infoS2 rfl) ?_)
    | (refine wpList_store_rowTo rfl 30 _ _ rfl rfl _ _ rfl rfl 30 _ g1.out (infoS2 rfl) rfl S1.out ?_)
    | fail)
  exact bodyPost_ret (results_row_tmp rfl _ _ _ 30 (stc (pc + 1) (gset g a (g a % 65536 + cc * 65536)) (.slice A n c) rd out st en) _ _ _ rfl rfl g2.out Tryd.underlying30 rfl (infoS2 rfl)) rfl ⟨rfl, HB.out⟩
set_option maxRecDepth 100000 in
set_option maxHeartbeats 4000000 in
theorem do9_halt (pc : Int) (g : Nat → Int) (A : Option Addr) (n c : Nat) (rd : Int) (out : ByteArray) (st en : Int) {B : Option Addr} {m k : Nat} {d : Int} (inp : ByteArray) {a b : Nat} {cc : Int} (w : World) (ha : a < 16) (hb : b < 16) (hcc : 0 ≤ cc ∧ cc ≤ 65535) (hp : -4611686018427387904 ≤ pc ∧ pc ≤ 4611686018427387904)  :
    Calls Tryd.prog 23 #[.agg #[.slice B m k, .int .i64 d], .string inp, .agg (stc pc g (.slice A n c) rd out st en), .agg #[.int .i64 26, .int .i64 (a : Int), .int .i64 (b : Int), .int .i64 cc]] w fun e w' => e = .returned (.tuple #[.agg (stc (pc + 1) g (.slice A n c) rd out st en), .int .i64 1]) ∧ Below w.heap.size w w' := by
  have hk := ((((Kx.nil none w).more (.cells #[.slice B m k, .int .i64 d] 24 (0, 0))).add (w.heap.size + 1) (by simp) (.cells (stc pc g (.slice A n c) rd out st en) 30 (0, 0))).add (w.heap.size + 1 + 1) (by simp) (.cells #[.int .i64 26, .int .i64 (a : Int), .int .i64 (b : Int), .int .i64 cc] 40 (0, 0))).add (w.heap.size + 1 + 1 + 1) (by simp) (.cells #[.int .i64 0, .int .u32 0, .int .u32 0, .int .u32 0, .int .u32 0, .int .u32 0, .int .u32 0, .int .u32 0, .int .u32 0, .int .u32 0, .int .u32 0, .int .u32 0, .int .u32 0, .int .u32 0, .int .u32 0, .int .u32 0, .int .u32 0, .slice none 0 0, .int .i64 0, .string ⟨#[]⟩, .int .i64 0, .int .i64 0] 30 (0, 0))
  obtain ⟨W0, hW0⟩ : ∃ W, (((w.alloc (.cells #[.slice B m k, .int .i64 d] 24 (0, 0))).alloc (.cells (stc pc g (.slice A n c) rd out st en) 30 (0, 0))).alloc (.cells #[.int .i64 26, .int .i64 (a : Int), .int .i64 (b : Int), .int .i64 cc] 40 (0, 0))).alloc (.cells #[.int .i64 0, .int .u32 0, .int .u32 0, .int .u32 0, .int .u32 0, .int .u32 0, .int .u32 0, .int .u32 0, .int .u32 0, .int .u32 0, .int .u32 0, .int .u32 0, .int .u32 0, .int .u32 0, .int .u32 0, .int .u32 0, .int .u32 0, .slice none 0 0, .int .i64 0, .string ⟨#[]⟩, .int .i64 0, .int .i64 0] 30 (0, 0)) = W := ⟨_, rfl⟩
  rw [hW0] at hk
  have y1 := row_cell (hk.at 2 rfl) 1 (v := .int .i64 (a : Int)) rfl
  have y3 := row_cell (hk.at 2 rfl) 3 (v := .int .i64 cc) rfl
  have za := row_cell (hk.at 1 rfl) (1 + a) (stc_get pc g (.slice A n c) rd out st en a ha)
  have zp := row_cell (hk.drew.at 1 rfl) 0 (stc_pc pc g (.slice A n c) rd out st en)
  have fp := row_froz (hk.drew.at 1 rfl) 0
  have a0 : (0 : Int) ≤ (a : Int) := by omega
  have a1 : (a : Int) < 16 := by omega
  have e1 : IntKind.u32.wrap cc = cc := by rw [IntKind.wrap_u32]; omega
  have w1 : IntKind.i64.wrap (pc + 1) = pc + 1 := by rw [IntKind.wrap_i64]; omega
  have k1 := (hk.putc 1 rfl (.inr (by omega)) 0 (.int .i64 (pc + 1)) (set_pc pc g (.slice A n c) rd out st en (pc + 1))).drew
  obtain ⟨W1, hW1⟩ : ∃ W, (W0.setCell ⟨w.heap.size + 1, 0, none⟩ (.int .i64 (pc + 1))).drew = W := ⟨_, rfl⟩
  rw [hW1] at k1
  have x0 := row_cell (k1.at 2 rfl) 0 (v := .int .i64 26) rfl
  have hz := k1.putRow 3 rfl (.inr (by omega)) (stc (pc + 1) g (.slice A n c) rd out st en)
  have g0 := Lib.hid (k1.at 1 rfl)
  have g1 := Lib.hid (k1.at 3 rfl)
  have g2 := Lib.hid (hz.at 3 rfl)
  have HB := Lib.hid hz.be.plain
  have S1 : Hid ((stc (pc + 1) g (.slice A n c) rd out st en).all (·.oneCell') = true) := Lib.hid (stc_one _ _ _ _ _ _ _ _ _)
  clear hk k1 hz
  go_enter Tryd.func23, Tryd.ntmps23
  go_upto_region 1 with fail
  refine wp_region_still_lit (by kernel_rfl) (by kernel_rfl) ?_
  repeat still_step
  refine wpStill_nil ?_
  go_upto_region 3 with fail
  clear y1 y3 za zp fp
  go_upto_region 37 with fail
  go_wp2_with (first
    | (refine wpList_load_row rfl 30 _ rfl _ rfl 30 _ _ _ g0.out Tryd.underlying30 rfl (infoS2 rfl) ?_)
    | (refine wpList_store_rowTo rfl 30 _ _ rfl rfl _ _ rfl rfl 30 _ g1.out (infoS2 rfl) rfl S1.out ?_)
    | fail)
  exact bodyPost_ret (results_row_tmp rfl _ _ _ 30 (stc (pc + 1) g (.slice A n c) rd out st en) _ _ _ rfl rfl g2.out Tryd.underlying30 rfl (infoS2 rfl)) rfl ⟨rfl, HB.out⟩
set_option maxRecDepth 100000 in
set_option maxHeartbeats 4000000 in
theorem do9_mov (pc : Int) (g : Nat → Int) (A : Option Addr) (n c : Nat) (rd : Int) (out : ByteArray) (st en : Int) {B : Option Addr} {m k : Nat} {d : Int} (inp : ByteArray) {a b : Nat} {cc : Int} (w : World) (ha : a < 16) (hb : b < 16) (hcc : 0 ≤ cc ∧ cc ≤ 65535) (hp : -4611686018427387904 ≤ pc ∧ pc ≤ 4611686018427387904)  :
    Calls Tryd.prog 23 #[.agg #[.slice B m k, .int .i64 d], .string inp, .agg (stc pc g (.slice A n c) rd out st en), .agg #[.int .i64 3, .int .i64 (a : Int), .int .i64 (b : Int), .int .i64 cc]] w fun e w' => e = .returned (.tuple #[.agg (stc (pc + 1) (gset g a (g b)) (.slice A n c) rd out st en), .int .i64 0]) ∧ Below w.heap.size w w' := by
  have hk := ((((Kx.nil none w).more (.cells #[.slice B m k, .int .i64 d] 24 (0, 0))).add (w.heap.size + 1) (by simp) (.cells (stc pc g (.slice A n c) rd out st en) 30 (0, 0))).add (w.heap.size + 1 + 1) (by simp) (.cells #[.int .i64 3, .int .i64 (a : Int), .int .i64 (b : Int), .int .i64 cc] 40 (0, 0))).add (w.heap.size + 1 + 1 + 1) (by simp) (.cells #[.int .i64 0, .int .u32 0, .int .u32 0, .int .u32 0, .int .u32 0, .int .u32 0, .int .u32 0, .int .u32 0, .int .u32 0, .int .u32 0, .int .u32 0, .int .u32 0, .int .u32 0, .int .u32 0, .int .u32 0, .int .u32 0, .int .u32 0, .slice none 0 0, .int .i64 0, .string ⟨#[]⟩, .int .i64 0, .int .i64 0] 30 (0, 0))
  obtain ⟨W0, hW0⟩ : ∃ W, (((w.alloc (.cells #[.slice B m k, .int .i64 d] 24 (0, 0))).alloc (.cells (stc pc g (.slice A n c) rd out st en) 30 (0, 0))).alloc (.cells #[.int .i64 3, .int .i64 (a : Int), .int .i64 (b : Int), .int .i64 cc] 40 (0, 0))).alloc (.cells #[.int .i64 0, .int .u32 0, .int .u32 0, .int .u32 0, .int .u32 0, .int .u32 0, .int .u32 0, .int .u32 0, .int .u32 0, .int .u32 0, .int .u32 0, .int .u32 0, .int .u32 0, .int .u32 0, .int .u32 0, .int .u32 0, .int .u32 0, .slice none 0 0, .int .i64 0, .string ⟨#[]⟩, .int .i64 0, .int .i64 0] 30 (0, 0)) = W := ⟨_, rfl⟩
  rw [hW0] at hk
  have y1 := row_cell (hk.at 2 rfl) 1 (v := .int .i64 (a : Int)) rfl
  have y3 := row_cell (hk.at 2 rfl) 3 (v := .int .i64 cc) rfl
  have za := row_cell (hk.at 1 rfl) (1 + a) (stc_get pc g (.slice A n c) rd out st en a ha)
  have zp := row_cell (hk.drew.at 1 rfl) 0 (stc_pc pc g (.slice A n c) rd out st en)
  have fp := row_froz (hk.drew.at 1 rfl) 0
  have a0 : (0 : Int) ≤ (a : Int) := by omega
  have a1 : (a : Int) < 16 := by omega
  have e1 : IntKind.u32.wrap cc = cc := by rw [IntKind.wrap_u32]; omega
  have w1 : IntKind.i64.wrap (pc + 1) = pc + 1 := by rw [IntKind.wrap_i64]; omega
  have k1 := (hk.putc 1 rfl (.inr (by omega)) 0 (.int .i64 (pc + 1)) (set_pc pc g (.slice A n c) rd out st en (pc + 1))).drew
  obtain ⟨W1, hW1⟩ : ∃ W, (W0.setCell ⟨w.heap.size + 1, 0, none⟩ (.int .i64 (pc + 1))).drew = W := ⟨_, rfl⟩
  rw [hW1] at k1
  have x0 := row_cell (k1.at 2 rfl) 0 (v := .int .i64 3) rfl
  have x1 := row_cell (k1.at 2 rfl) 1 (v := .int .i64 (a : Int)) rfl
  have x2 := row_cell (k1.at 2 rfl) 2 (v := .int .i64 (b : Int)) rfl
  have xb := row_cell (k1.at 1 rfl) (1 + b) (stc_get (pc + 1) g (.slice A n c) rd out st en b hb)
  have xi := row_cell (k1.drew.at 1 rfl) (1 + a) (stc_get (pc + 1) g (.slice A n c) rd out st en a ha)
  have fi := row_froz (k1.drew.at 1 rfl) (1 + a)
  have b0 : (0 : Int) ≤ (b : Int) := by omega
  have b1 : (b : Int) < 16 := by omega
  have k2 := (k1.putc 1 rfl (.inr (by omega)) (1 + a) (.int .u32 (g b)) (stc_set (pc + 1) g (.slice A n c) rd out st en a ha (g b))).drew
  have hz := k2.putRow 3 rfl (.inr (by omega)) (stc (pc + 1) (gset g a (g b)) (.slice A n c) rd out st en)
  have g0 := Lib.hid (k2.at 1 rfl)
  have g1 := Lib.hid (k2.at 3 rfl)
  have g2 := Lib.hid (hz.at 3 rfl)
  have HB := Lib.hid hz.be.plain
  have S1 : Hid ((stc (pc + 1) (gset g a (g b)) (.slice A n c) rd out st en).all (·.oneCell') = true) := Lib.hid (stc_one _ _ _ _ _ _ _ _ _)
  clear hk k1 k2 hz
  go_enter Tryd.func23, Tryd.ntmps23
  go_upto_region 1 with fail
  refine wp_region_still_lit (by kernel_rfl) (by kernel_rfl) ?_
  repeat still_step
  refine wpStill_nil ?_
  go_upto_region 3 with fail
  clear y1 y3 za zp fp
  go_upto_region 10 with fail
  refine wp_region_still_tail 9 (by kernel_rfl) (by kernel_rfl) ?_
  simp only [List.take_succ_cons, List.take_zero, List.drop_succ_cons, List.drop_zero]
  repeat still_step
  refine wpStill_nil ?_
  go_upto_region 38 with fail
  go_wp2_with (first
    | (refine wpList_load_row rfl 30 _ rfl _ rfl 30 _ _ _ g0.out Tryd.underlying30 rfl (infoS2 rfl) ?_)
    | (refine wpList_store_rowTo rfl 30 _ _ rfl rfl _ _ rfl rfl 30 _ g1.out (infoS2 rfl) rfl S1.out ?_)
    | fail)
  exact bodyPost_ret (results_row_tmp rfl _ _ _ 30 (stc (pc + 1) (gset g a (g b)) (.slice A n c) rd out st en) _ _ _ rfl rfl g2.out Tryd.underlying30 rfl (infoS2 rfl)) rfl ⟨rfl, HB.out⟩
set_option maxRecDepth 100000 in
set_option maxHeartbeats 4000000 in
theorem do9_chk_yes (pc : Int) (g : Nat → Int) (A : Option Addr) (n c : Nat) (rd : Int) (out : ByteArray) (st en : Int) {B : Option Addr} {m k : Nat} {d : Int} (inp : ByteArray) {a b : Nat} {cc : Int} (w : World) (ha : a < 16) (hb : b < 16) (hcc : 0 ≤ cc ∧ cc ≤ 65535) (hp : -4611686018427387904 ≤ pc ∧ pc ≤ 4611686018427387904) (hz9 : g a < cc) :
    Calls Tryd.prog 23 #[.agg #[.slice B m k, .int .i64 d], .string inp, .agg (stc pc g (.slice A n c) rd out st en), .agg #[.int .i64 25, .int .i64 (a : Int), .int .i64 (b : Int), .int .i64 cc]] w fun e w' => e = .returned (.tuple #[.agg (stc (pc + 1) g (.slice A n c) rd out st en), .int .i64 0]) ∧ Below w.heap.size w w' := by
  have hk := ((((Kx.nil none w).more (.cells #[.slice B m k, .int .i64 d] 24 (0, 0))).add (w.heap.size + 1) (by simp) (.cells (stc pc g (.slice A n c) rd out st en) 30 (0, 0))).add (w.heap.size + 1 + 1) (by simp) (.cells #[.int .i64 25, .int .i64 (a : Int), .int .i64 (b : Int), .int .i64 cc] 40 (0, 0))).add (w.heap.size + 1 + 1 + 1) (by simp) (.cells #[.int .i64 0, .int .u32 0, .int .u32 0, .int .u32 0, .int .u32 0, .int .u32 0, .int .u32 0, .int .u32 0, .int .u32 0, .int .u32 0, .int .u32 0, .int .u32 0, .int .u32 0, .int .u32 0, .int .u32 0, .int .u32 0, .int .u32 0, .slice none 0 0, .int .i64 0, .string ⟨#[]⟩, .int .i64 0, .int .i64 0] 30 (0, 0))
  obtain ⟨W0, hW0⟩ : ∃ W, (((w.alloc (.cells #[.slice B m k, .int .i64 d] 24 (0, 0))).alloc (.cells (stc pc g (.slice A n c) rd out st en) 30 (0, 0))).alloc (.cells #[.int .i64 25, .int .i64 (a : Int), .int .i64 (b : Int), .int .i64 cc] 40 (0, 0))).alloc (.cells #[.int .i64 0, .int .u32 0, .int .u32 0, .int .u32 0, .int .u32 0, .int .u32 0, .int .u32 0, .int .u32 0, .int .u32 0, .int .u32 0, .int .u32 0, .int .u32 0, .int .u32 0, .int .u32 0, .int .u32 0, .int .u32 0, .int .u32 0, .slice none 0 0, .int .i64 0, .string ⟨#[]⟩, .int .i64 0, .int .i64 0] 30 (0, 0)) = W := ⟨_, rfl⟩
  rw [hW0] at hk
  have y1 := row_cell (hk.at 2 rfl) 1 (v := .int .i64 (a : Int)) rfl
  have y3 := row_cell (hk.at 2 rfl) 3 (v := .int .i64 cc) rfl
  have za := row_cell (hk.at 1 rfl) (1 + a) (stc_get pc g (.slice A n c) rd out st en a ha)
  have zp := row_cell (hk.drew.at 1 rfl) 0 (stc_pc pc g (.slice A n c) rd out st en)
  have fp := row_froz (hk.drew.at 1 rfl) 0
  have a0 : (0 : Int) ≤ (a : Int) := by omega
  have a1 : (a : Int) < 16 := by omega
  have e1 : IntKind.u32.wrap cc = cc := by rw [IntKind.wrap_u32]; omega
  have w1 : IntKind.i64.wrap (pc + 1) = pc + 1 := by rw [IntKind.wrap_i64]; omega
  have k1 := (hk.putc 1 rfl (.inr (by omega)) 0 (.int .i64 (pc + 1)) (set_pc pc g (.slice A n c) rd out st en (pc + 1))).drew
  obtain ⟨W1, hW1⟩ : ∃ W, (W0.setCell ⟨w.heap.size + 1, 0, none⟩ (.int .i64 (pc + 1))).drew = W := ⟨_, rfl⟩
  rw [hW1] at k1
  have x0 := row_cell (k1.at 2 rfl) 0 (v := .int .i64 25) rfl
  have i1 : decide (g a < cc) = true := decide_eq_true hz9
  have gk := Lib.hid (k1.at 1 rfl)
  have cu := fun w => unless_yes 3 w
  have CU := Lib.hid cu
  have hz := k1.drew.putRow 3 rfl (.inr (by omega)) (stc (pc + 1) g (.slice A n c) rd out st en)
  have g0 := Lib.hid (k1.drew.at 1 rfl)
  have g1 := Lib.hid (k1.drew.at 3 rfl)
  have g2 := Lib.hid (hz.at 3 rfl)
  have HB := Lib.hid hz.be.plain
  have S1 : Hid ((stc (pc + 1) g (.slice A n c) rd out st en).all (·.oneCell') = true) := Lib.hid (stc_one _ _ _ _ _ _ _ _ _)
  clear hk k1 hz cu hz9
  go_enter Tryd.func23, Tryd.ntmps23
  go_upto_region 1 with fail
  refine wp_region_still_lit (by kernel_rfl) (by kernel_rfl) ?_
  repeat still_step
  refine wpStill_nil ?_
  go_upto_region 3 with fail
  clear y1 y3 za zp fp
  go_upto_region 35 with fail
  refine wp_region_still_tail 5 (by kernel_rfl) (by kernel_rfl) ?_
  simp only [List.take_succ_cons, List.take_zero, List.drop_succ_cons, List.drop_zero]
  repeat (first
    | (refine still_row rfl 30 _ rfl _ rfl 30 _ _ _ gk.out Tryd.underlying30 rfl (infoS2 rfl) ?_)
    | still_call (CU.out _)
    | still_step)
  refine wpStill_nil ?_
  go_wp2_with (first
    | (refine wpList_store_rowTo rfl 30 _ _ rfl rfl _ _ rfl rfl 30 _ g1.out (infoS2 rfl) rfl S1.out ?_)
    | fail)
  exact bodyPost_ret (results_row_tmp rfl _ _ _ 30 (stc (pc + 1) g (.slice A n c) rd out st en) _ _ _ rfl rfl g2.out Tryd.underlying30 rfl (infoS2 rfl)) rfl ⟨rfl, HB.out⟩
set_option maxRecDepth 100000 in
set_option maxHeartbeats 4000000 in
theorem do9_chk_no (pc : Int) (g : Nat → Int) (A : Option Addr) (n c : Nat) (rd : Int) (out : ByteArray) (st en : Int) {B : Option Addr} {m k : Nat} {d : Int} (inp : ByteArray) {a b : Nat} {cc : Int} (w : World) (ha : a < 16) (hb : b < 16) (hcc : 0 ≤ cc ∧ cc ≤ 65535) (hp : -4611686018427387904 ≤ pc ∧ pc ≤ 4611686018427387904) (hz9 : ¬ g a < cc) :
    Calls Tryd.prog 23 #[.agg #[.slice B m k, .int .i64 d], .string inp, .agg (stc pc g (.slice A n c) rd out st en), .agg #[.int .i64 25, .int .i64 (a : Int), .int .i64 (b : Int), .int .i64 cc]] w fun e w' => e = .returned (.tuple #[.agg (stc (pc + 1) g (.slice A n c) rd out st en), .int .i64 3]) ∧ Below w.heap.size w w' := by
  have hk := ((((Kx.nil none w).more (.cells #[.slice B m k, .int .i64 d] 24 (0, 0))).add (w.heap.size + 1) (by simp) (.cells (stc pc g (.slice A n c) rd out st en) 30 (0, 0))).add (w.heap.size + 1 + 1) (by simp) (.cells #[.int .i64 25, .int .i64 (a : Int), .int .i64 (b : Int), .int .i64 cc] 40 (0, 0))).add (w.heap.size + 1 + 1 + 1) (by simp) (.cells #[.int .i64 0, .int .u32 0, .int .u32 0, .int .u32 0, .int .u32 0, .int .u32 0, .int .u32 0, .int .u32 0, .int .u32 0, .int .u32 0, .int .u32 0, .int .u32 0, .int .u32 0, .int .u32 0, .int .u32 0, .int .u32 0, .int .u32 0, .slice none 0 0, .int .i64 0, .string ⟨#[]⟩, .int .i64 0, .int .i64 0] 30 (0, 0))
  obtain ⟨W0, hW0⟩ : ∃ W, (((w.alloc (.cells #[.slice B m k, .int .i64 d] 24 (0, 0))).alloc (.cells (stc pc g (.slice A n c) rd out st en) 30 (0, 0))).alloc (.cells #[.int .i64 25, .int .i64 (a : Int), .int .i64 (b : Int), .int .i64 cc] 40 (0, 0))).alloc (.cells #[.int .i64 0, .int .u32 0, .int .u32 0, .int .u32 0, .int .u32 0, .int .u32 0, .int .u32 0, .int .u32 0, .int .u32 0, .int .u32 0, .int .u32 0, .int .u32 0, .int .u32 0, .int .u32 0, .int .u32 0, .int .u32 0, .int .u32 0, .slice none 0 0, .int .i64 0, .string ⟨#[]⟩, .int .i64 0, .int .i64 0] 30 (0, 0)) = W := ⟨_, rfl⟩
  rw [hW0] at hk
  have y1 := row_cell (hk.at 2 rfl) 1 (v := .int .i64 (a : Int)) rfl
  have y3 := row_cell (hk.at 2 rfl) 3 (v := .int .i64 cc) rfl
  have za := row_cell (hk.at 1 rfl) (1 + a) (stc_get pc g (.slice A n c) rd out st en a ha)
  have zp := row_cell (hk.drew.at 1 rfl) 0 (stc_pc pc g (.slice A n c) rd out st en)
  have fp := row_froz (hk.drew.at 1 rfl) 0
  have a0 : (0 : Int) ≤ (a : Int) := by omega
  have a1 : (a : Int) < 16 := by omega
  have e1 : IntKind.u32.wrap cc = cc := by rw [IntKind.wrap_u32]; omega
  have w1 : IntKind.i64.wrap (pc + 1) = pc + 1 := by rw [IntKind.wrap_i64]; omega
  have k1 := (hk.putc 1 rfl (.inr (by omega)) 0 (.int .i64 (pc + 1)) (set_pc pc g (.slice A n c) rd out st en (pc + 1))).drew
  obtain ⟨W1, hW1⟩ : ∃ W, (W0.setCell ⟨w.heap.size + 1, 0, none⟩ (.int .i64 (pc + 1))).drew = W := ⟨_, rfl⟩
  rw [hW1] at k1
  have x0 := row_cell (k1.at 2 rfl) 0 (v := .int .i64 25) rfl
  have i1 : decide (g a < cc) = false := decide_eq_false hz9
  have gk := Lib.hid (k1.at 1 rfl)
  have cu := fun w => unless_no 3 w
  have CU := Lib.hid cu
  have hz := k1.drew.putRow 3 rfl (.inr (by omega)) (stc (pc + 1) g (.slice A n c) rd out st en)
  have g0 := Lib.hid (k1.drew.at 1 rfl)
  have g1 := Lib.hid (k1.drew.at 3 rfl)
  have g2 := Lib.hid (hz.at 3 rfl)
  have HB := Lib.hid hz.be.plain
  have S1 : Hid ((stc (pc + 1) g (.slice A n c) rd out st en).all (·.oneCell') = true) := Lib.hid (stc_one _ _ _ _ _ _ _ _ _)
  clear hk k1 hz cu hz9
  go_enter Tryd.func23, Tryd.ntmps23
  go_upto_region 1 with fail
  refine wp_region_still_lit (by kernel_rfl) (by kernel_rfl) ?_
  repeat still_step
  refine wpStill_nil ?_
  go_upto_region 3 with fail
  clear y1 y3 za zp fp
  go_upto_region 35 with fail
  refine wp_region_still_tail 5 (by kernel_rfl) (by kernel_rfl) ?_
  simp only [List.take_succ_cons, List.take_zero, List.drop_succ_cons, List.drop_zero]
  repeat (first
    | (refine still_row rfl 30 _ rfl _ rfl 30 _ _ _ gk.out Tryd.underlying30 rfl (infoS2 rfl) ?_)
    | still_call (CU.out _)
    | still_step)
  refine wpStill_nil ?_
  go_wp2_with (first
    | (refine wpList_store_rowTo rfl 30 _ _ rfl rfl _ _ rfl rfl 30 _ g1.out (infoS2 rfl) rfl S1.out ?_)
    | fail)
  exact bodyPost_ret (results_row_tmp rfl _ _ _ 30 (stc (pc + 1) g (.slice A n c) rd out st en) _ _ _ rfl rfl g2.out Tryd.underlying30 rfl (infoS2 rfl)) rfl ⟨rfl, HB.out⟩
end Go.Proofs.YtgojpflkhnaedaaDoor
