/- Layer 9 (machine), the program's code: do: get, put, operations. -/
import Derived.Test.YtgojpflkhnaedaaDoorMcsB
set_option linter.unusedVariables false
namespace Go.Proofs.YtgojpflkhnaedaaDoor
open Go.RowKit

set_option maxRecDepth 100000 in
set_option maxHeartbeats 4000000 in
theorem do9_get_yes (pc : Int) (g : Nat → Int) (A : Option Addr) (n c : Nat) (rd : Int) (out : ByteArray) (st en : Int) {B : Option Addr} {m k : Nat} {d : Int} (inp : ByteArray) (j : Nat) (u : UInt8) {a b : Nat} {cc : Int} (w : World) (ha : a < 16) (hb : b < 16) (hcc : 0 ≤ cc ∧ cc ≤ 65535) (hp : -4611686018427387904 ≤ pc ∧ pc ≤ 4611686018427387904) (hi : inp.size ≤ 1073741824) (hj : j < inp.size) (hr : rd = (j : Int)) (hu : inp[j] = u) :
    Calls Tryd.prog 23 #[.agg #[.slice B m k, .int .i64 d], .string inp, .agg (stc pc g (.slice A n c) rd out st en), .agg #[.int .i64 23, .int .i64 (a : Int), .int .i64 (b : Int), .int .i64 cc]] w fun e w' => e = .returned (.tuple #[.agg (stc (pc + 1) (gset g a (u.toNat : Int)) (.slice A n c) ((j : Int) + 1) out st en), .int .i64 0]) ∧ Below w.heap.size w w' := by
  subst hr
  have hk := ((((Kx.nil none w).more (.cells #[.slice B m k, .int .i64 d] 24 (0, 0))).add (w.heap.size + 1) (by simp) (.cells (stc pc g (.slice A n c) (j : Int) out st en) 30 (0, 0))).add (w.heap.size + 1 + 1) (by simp) (.cells #[.int .i64 23, .int .i64 (a : Int), .int .i64 (b : Int), .int .i64 cc] 40 (0, 0))).add (w.heap.size + 1 + 1 + 1) (by simp) (.cells #[.int .i64 0, .int .u32 0, .int .u32 0, .int .u32 0, .int .u32 0, .int .u32 0, .int .u32 0, .int .u32 0, .int .u32 0, .int .u32 0, .int .u32 0, .int .u32 0, .int .u32 0, .int .u32 0, .int .u32 0, .int .u32 0, .int .u32 0, .slice none 0 0, .int .i64 0, .string ⟨#[]⟩, .int .i64 0, .int .i64 0] 30 (0, 0))
  obtain ⟨W0, hW0⟩ : ∃ W, (((w.alloc (.cells #[.slice B m k, .int .i64 d] 24 (0, 0))).alloc (.cells (stc pc g (.slice A n c) (j : Int) out st en) 30 (0, 0))).alloc (.cells #[.int .i64 23, .int .i64 (a : Int), .int .i64 (b : Int), .int .i64 cc] 40 (0, 0))).alloc (.cells #[.int .i64 0, .int .u32 0, .int .u32 0, .int .u32 0, .int .u32 0, .int .u32 0, .int .u32 0, .int .u32 0, .int .u32 0, .int .u32 0, .int .u32 0, .int .u32 0, .int .u32 0, .int .u32 0, .int .u32 0, .int .u32 0, .int .u32 0, .slice none 0 0, .int .i64 0, .string ⟨#[]⟩, .int .i64 0, .int .i64 0] 30 (0, 0)) = W := ⟨_, rfl⟩
  rw [hW0] at hk
  have y1 := row_cell (hk.at 2 rfl) 1 (v := .int .i64 (a : Int)) rfl
  have y3 := row_cell (hk.at 2 rfl) 3 (v := .int .i64 cc) rfl
  have za := row_cell (hk.at 1 rfl) (1 + a) (stc_get pc g (.slice A n c) (j : Int) out st en a ha)
  have zp := row_cell (hk.drew.at 1 rfl) 0 (stc_pc pc g (.slice A n c) (j : Int) out st en)
  have fp := row_froz (hk.drew.at 1 rfl) 0
  have a0 : (0 : Int) ≤ (a : Int) := by omega
  have a1 : (a : Int) < 16 := by omega
  have e1 : IntKind.u32.wrap cc = cc := by rw [IntKind.wrap_u32]; omega
  have w1 : IntKind.i64.wrap (pc + 1) = pc + 1 := by rw [IntKind.wrap_i64]; omega
  have k1 := (hk.putc 1 rfl (.inr (by omega)) 0 (.int .i64 (pc + 1)) (set_pc pc g (.slice A n c) (j : Int) out st en (pc + 1))).drew
  obtain ⟨W1, hW1⟩ : ∃ W, (W0.setCell ⟨w.heap.size + 1, 0, none⟩ (.int .i64 (pc + 1))).drew = W := ⟨_, rfl⟩
  rw [hW1] at k1
  have x0 := row_cell (k1.at 2 rfl) 0 (v := .int .i64 23) rfl
  have x1 := row_cell (k1.at 2 rfl) 1 (v := .int .i64 (a : Int)) rfl
  have g0 := Lib.hid (k1.at 1 rfl)
  have gi := Lib.hid (k1.at 2 rfl)
  have HK := Lib.hid k1
  have cs := fun W => get9_yes (pc + 1) g A n c (j : Int) out st en inp (a := a) j u W ha hi hj rfl hu
  have CS := Lib.hid cs
  clear hk k1 cs
  go_enter Tryd.func23, Tryd.ntmps23
  go_upto_region 1 with fail
  refine wp_region_still_lit (by kernel_rfl) (by kernel_rfl) ?_
  repeat still_step
  refine wpStill_nil ?_
  go_upto_region 3 with fail
  clear y1 y3 za zp fp
  go_upto_region 31 with fail
  go_wp2_with (first
    | (refine wpList_load_row rfl 30 _ rfl _ rfl 30 _ _ _ g0.out Tryd.underlying30 rfl (infoS2 rfl) ?_)
    | fail)
  refine (CS.out _).mono ?_
  rintro e w2 ⟨rfl, hb2⟩
  have kz := HK.out.after hb2
  have hz := kz.putRow 3 rfl (.inr (by omega)) (stc (pc + 1) (gset g a (u.toNat : Int)) (.slice A n c) ((j : Int) + 1) out st en)
  replace g0 := Lib.hid (kz.at 1 rfl)
  have g1 := Lib.hid (kz.at 3 rfl)
  have g2 := Lib.hid (hz.at 3 rfl)
  have HB := Lib.hid hz.be.plain
  have S1 : Hid ((stc (pc + 1) (gset g a (u.toNat : Int)) (.slice A n c) ((j : Int) + 1) out st en).all (·.oneCell') = true) := Lib.hid (stc_one _ _ _ _ _ _ _ _ _)
  clear kz hz hb2
  go_wp2_with (first
    | (refine wpList_store_rowTo rfl 30 _ _ rfl rfl _ _ rfl rfl 30 _ g1.out (infoS2 rfl) rfl S1.out ?_)
    | fail)
  exact bodyPost_ret (results_row_tmp rfl _ _ _ 30 (stc (pc + 1) (gset g a (u.toNat : Int)) (.slice A n c) ((j : Int) + 1) out st en) _ _ _ rfl rfl g2.out Tryd.underlying30 rfl (infoS2 rfl)) rfl ⟨rfl, HB.out⟩
set_option maxRecDepth 100000 in
set_option maxHeartbeats 4000000 in
theorem do9_put_yes (pc : Int) (g : Nat → Int) (A : Option Addr) (n c : Nat) (rd : Int) (out : ByteArray) (st en : Int) {B : Option Addr} {m k : Nat} {d : Int} (inp : ByteArray) {a b : Nat} {cc : Int} (w : World) (ha : a < 16) (hb : b < 16) (hcc : 0 ≤ cc ∧ cc ≤ 65535) (hp : -4611686018427387904 ≤ pc ∧ pc ≤ 4611686018427387904) (hav : 0 ≤ g a ∧ g a < 4294967296) (ho : out.size < 65536) :
    Calls Tryd.prog 23 #[.agg #[.slice B m k, .int .i64 d], .string inp, .agg (stc pc g (.slice A n c) rd out st en), .agg #[.int .i64 24, .int .i64 (a : Int), .int .i64 (b : Int), .int .i64 cc]] w fun e w' => e = .returned (.tuple #[.agg (stc (pc + 1) g (.slice A n c) rd (out ++ ⟨#[byt (g a)]⟩) st en), .int .i64 0]) ∧ Below w.heap.size w w' := by
  have hk := ((((Kx.nil none w).more (.cells #[.slice B m k, .int .i64 d] 24 (0, 0))).add (w.heap.size + 1) (by simp) (.cells (stc pc g (.slice A n c) rd out st en) 30 (0, 0))).add (w.heap.size + 1 + 1) (by simp) (.cells #[.int .i64 24, .int .i64 (a : Int), .int .i64 (b : Int), .int .i64 cc] 40 (0, 0))).add (w.heap.size + 1 + 1 + 1) (by simp) (.cells #[.int .i64 0, .int .u32 0, .int .u32 0, .int .u32 0, .int .u32 0, .int .u32 0, .int .u32 0, .int .u32 0, .int .u32 0, .int .u32 0, .int .u32 0, .int .u32 0, .int .u32 0, .int .u32 0, .int .u32 0, .int .u32 0, .int .u32 0, .slice none 0 0, .int .i64 0, .string ⟨#[]⟩, .int .i64 0, .int .i64 0] 30 (0, 0))
  obtain ⟨W0, hW0⟩ : ∃ W, (((w.alloc (.cells #[.slice B m k, .int .i64 d] 24 (0, 0))).alloc (.cells (stc pc g (.slice A n c) rd out st en) 30 (0, 0))).alloc (.cells #[.int .i64 24, .int .i64 (a : Int), .int .i64 (b : Int), .int .i64 cc] 40 (0, 0))).alloc (.cells #[.int .i64 0, .int .u32 0, .int .u32 0, .int .u32 0, .int .u32 0, .int .u32 0, .int .u32 0, .int .u32 0, .int .u32 0, .int .u32 0, .int .u32 0, .int .u32 0, .int .u32 0, .int .u32 0, .int .u32 0, .int .u32 0, .int .u32 0, .slice none 0 0, .int .i64 0, .string ⟨#[]⟩, .int .i64 0, .int .i64 0] 30 (0, 0)) = W := ⟨_, rfl⟩
  rw [hW0] at hk
  have y1 := row_cell (hk.at 2 rfl) 1 (v := .int .i64 (a : Int)) rfl
  have y3 := row_cell (hk.at 2 rfl) 3 (v := .int .i64 cc) rfl
  have za := row_cell (hk.at 1 rfl) (1 + a) (stc_get pc g (.slice A n c) rd out st en a ha)
  have zp := row_cell (hk.drew.at 1 rfl) 0 (stc_pc pc g (.slice A n c) rd out st en)
  have fp := row_froz (hk.drew.at 1 rfl) 0
  have a0 : (0 : Int) ≤ (a : Int) := by omega
  have a1 : (a : Int) < 16 := by omega
  have e1 : IntKind.u32.wrap cc = cc := by rw [IntKind.wrap_u32]; omega
  have w1 : IntKind.i64.wrap (pc + 1) = pc + 1 := by rw [IntKind.wrap_i64]; omega
  have k1 := (hk.putc 1 rfl (.inr (by omega)) 0 (.int .i64 (pc + 1)) (set_pc pc g (.slice A n c) rd out st en (pc + 1))).drew
  obtain ⟨W1, hW1⟩ : ∃ W, (W0.setCell ⟨w.heap.size + 1, 0, none⟩ (.int .i64 (pc + 1))).drew = W := ⟨_, rfl⟩
  rw [hW1] at k1
  have x0 := row_cell (k1.at 2 rfl) 0 (v := .int .i64 24) rfl
  have g0 := Lib.hid (k1.at 1 rfl)
  have gi := Lib.hid (k1.at 2 rfl)
  have HK := Lib.hid k1
  have cs := fun W => put9_yes (pc + 1) g A n c rd out st en (g a) W ho hav
  have CS := Lib.hid cs
  clear hk k1 cs
  go_enter Tryd.func23, Tryd.ntmps23
  go_upto_region 1 with fail
  refine wp_region_still_lit (by kernel_rfl) (by kernel_rfl) ?_
  repeat still_step
  refine wpStill_nil ?_
  go_upto_region 3 with fail
  clear y1 y3 za zp fp
  go_upto_region 33 with fail
  go_wp2_with (first
    | (refine wpList_load_row rfl 30 _ rfl _ rfl 30 _ _ _ g0.out Tryd.underlying30 rfl (infoS2 rfl) ?_)
    | fail)
  refine (CS.out _).mono ?_
  rintro e w2 ⟨rfl, hb2⟩
  have kz := HK.out.after hb2
  have hz := kz.putRow 3 rfl (.inr (by omega)) (stc (pc + 1) g (.slice A n c) rd (out ++ ⟨#[byt (g a)]⟩) st en)
  replace g0 := Lib.hid (kz.at 1 rfl)
  have g1 := Lib.hid (kz.at 3 rfl)
  have g2 := Lib.hid (hz.at 3 rfl)
  have HB := Lib.hid hz.be.plain
  have S1 : Hid ((stc (pc + 1) g (.slice A n c) rd (out ++ ⟨#[byt (g a)]⟩) st en).all (·.oneCell') = true) := Lib.hid (stc_one _ _ _ _ _ _ _ _ _)
  clear kz hz hb2
  go_wp2_with (first
    | (refine wpList_store_rowTo rfl 30 _ _ rfl rfl _ _ rfl rfl 30 _ g1.out (infoS2 rfl) rfl S1.out ?_)
    | fail)
  exact bodyPost_ret (results_row_tmp rfl _ _ _ 30 (stc (pc + 1) g (.slice A n c) rd (out ++ ⟨#[byt (g a)]⟩) st en) _ _ _ rfl rfl g2.out Tryd.underlying30 rfl (infoS2 rfl)) rfl ⟨rfl, HB.out⟩
set_option maxRecDepth 100000 in
set_option maxHeartbeats 4000000 in
theorem do9_get_no (pc : Int) (g : Nat → Int) (A : Option Addr) (n c : Nat) (rd : Int) (out : ByteArray) (st en : Int) {B : Option Addr} {m k : Nat} {d : Int} (inp : ByteArray) {a b : Nat} {cc : Int} (w : World) (ha : a < 16) (hb : b < 16) (hcc : 0 ≤ cc ∧ cc ≤ 65535) (hp : -4611686018427387904 ≤ pc ∧ pc ≤ 4611686018427387904) (hr : ¬ (0 ≤ rd ∧ rd < (inp.size : Int))) :
    Calls Tryd.prog 23 #[.agg #[.slice B m k, .int .i64 d], .string inp, .agg (stc pc g (.slice A n c) rd out st en), .agg #[.int .i64 23, .int .i64 (a : Int), .int .i64 (b : Int), .int .i64 cc]] w fun e w' => e = .returned (.tuple #[.agg (stc (pc + 1) (gset g a 256) (.slice A n c) rd out st en), .int .i64 0]) ∧ Below w.heap.size w w' := by
  have hk := ((((Kx.nil none w).more (.cells #[.slice B m k, .int .i64 d] 24 (0, 0))).add (w.heap.size + 1) (by simp) (.cells (stc pc g (.slice A n c) rd out st en) 30 (0, 0))).add (w.heap.size + 1 + 1) (by simp) (.cells #[.int .i64 23, .int .i64 (a : Int), .int .i64 (b : Int), .int .i64 cc] 40 (0, 0))).add (w.heap.size + 1 + 1 + 1) (by simp) (.cells #[.int .i64 0, .int .u32 0, .int .u32 0, .int .u32 0, .int .u32 0, .int .u32 0, .int .u32 0, .int .u32 0, .int .u32 0, .int .u32 0, .int .u32 0, .int .u32 0, .int .u32 0, .int .u32 0, .int .u32 0, .int .u32 0, .int .u32 0, .slice none 0 0, .int .i64 0, .string ⟨#[]⟩, .int .i64 0, .int .i64 0] 30 (0, 0))
  obtain ⟨W0, hW0⟩ : ∃ W, (((w.alloc (.cells #[.slice B m k, .int .i64 d] 24 (0, 0))).alloc (.cells (stc pc g (.slice A n c) rd out st en) 30 (0, 0))).alloc (.cells #[.int .i64 23, .int .i64 (a : Int), .int .i64 (b : Int), .int .i64 cc] 40 (0, 0))).alloc (.cells #[.int .i64 0, .int .u32 0, .int .u32 0, .int .u32 0, .int .u32 0, .int .u32 0, .int .u32 0, .int .u32 0, .int .u32 0, .int .u32 0, .int .u32 0, .int .u32 0, .int .u32 0, .int .u32 0, .int .u32 0, .int .u32 0, .int .u32 0, .slice none 0 0, .int .i64 0, .string ⟨#[]⟩, .int .i64 0, .int .i64 0] 30 (0, 0)) = W := ⟨_, rfl⟩
  rw [hW0] at hk
  have y1 := row_cell (hk.at 2 rfl) 1 (v := .int .i64 (a : Int)) rfl
  have y3 := row_cell (hk.at 2 rfl) 3 (v := .int .i64 cc) rfl
  have za := row_cell (hk.at 1 rfl) (1 + a) (stc_get pc g (.slice A n c) rd out st en a ha)
  have zp := row_cell (hk.drew.at 1 rfl) 0 (stc_pc pc g (.slice A n c) rd out st en)
  have fp := row_froz (hk.drew.at 1 rfl) 0
  have a0 : (0 : Int) ≤ (a : Int) := by omega
  have a1 : (a : Int) < 16 := by omega
  have e1 : IntKind.u32.wrap cc = cc := by rw [IntKind.wrap_u32]; omega
  have w1 : IntKind.i64.wrap (pc + 1) = pc + 1 := by rw [IntKind.wrap_i64]; omega
  have k1 := (hk.putc 1 rfl (.inr (by omega)) 0 (.int .i64 (pc + 1)) (set_pc pc g (.slice A n c) rd out st en (pc + 1))).drew
  obtain ⟨W1, hW1⟩ : ∃ W, (W0.setCell ⟨w.heap.size + 1, 0, none⟩ (.int .i64 (pc + 1))).drew = W := ⟨_, rfl⟩
  rw [hW1] at k1
  have x0 := row_cell (k1.at 2 rfl) 0 (v := .int .i64 23) rfl
  have x1 := row_cell (k1.at 2 rfl) 1 (v := .int .i64 (a : Int)) rfl
  have g0 := Lib.hid (k1.at 1 rfl)
  have gi := Lib.hid (k1.at 2 rfl)
  have HK := Lib.hid k1
  have cs := fun W => get9_no (pc + 1) g A n c rd out st en inp (a := a) W ha hr
  have CS := Lib.hid cs
  clear hk k1 cs
  go_enter Tryd.func23, Tryd.ntmps23
  go_upto_region 1 with fail
  refine wp_region_still_lit (by kernel_rfl) (by kernel_rfl) ?_
  repeat still_step
  refine wpStill_nil ?_
  go_upto_region 3 with fail
  clear y1 y3 za zp fp
  go_upto_region 31 with fail
  go_wp2_with (first
    | (refine wpList_load_row rfl 30 _ rfl _ rfl 30 _ _ _ g0.out Tryd.underlying30 rfl (infoS2 rfl) ?_)
    | fail)
  refine (CS.out _).mono ?_
  rintro e w2 ⟨rfl, hb2⟩
  have kz := HK.out.after hb2
  have hz := kz.putRow 3 rfl (.inr (by omega)) (stc (pc + 1) (gset g a 256) (.slice A n c) rd out st en)
  replace g0 := Lib.hid (kz.at 1 rfl)
  have g1 := Lib.hid (kz.at 3 rfl)
  have g2 := Lib.hid (hz.at 3 rfl)
  have HB := Lib.hid hz.be.plain
  have S1 : Hid ((stc (pc + 1) (gset g a 256) (.slice A n c) rd out st en).all (·.oneCell') = true) := Lib.hid (stc_one _ _ _ _ _ _ _ _ _)
  clear kz hz hb2
  go_wp2_with (first
    | (refine wpList_store_rowTo rfl 30 _ _ rfl rfl _ _ rfl rfl 30 _ g1.out (infoS2 rfl) rfl S1.out ?_)
    | fail)
  exact bodyPost_ret (results_row_tmp rfl _ _ _ 30 (stc (pc + 1) (gset g a 256) (.slice A n c) rd out st en) _ _ _ rfl rfl g2.out Tryd.underlying30 rfl (infoS2 rfl)) rfl ⟨rfl, HB.out⟩
set_option maxRecDepth 100000 in
set_option maxHeartbeats 4000000 in
theorem do9_put_no (pc : Int) (g : Nat → Int) (A : Option Addr) (n c : Nat) (rd : Int) (out : ByteArray) (st en : Int) {B : Option Addr} {m k : Nat} {d : Int} (inp : ByteArray) {a b : Nat} {cc : Int} (w : World) (ha : a < 16) (hb : b < 16) (hcc : 0 ≤ cc ∧ cc ≤ 65535) (hp : -4611686018427387904 ≤ pc ∧ pc ≤ 4611686018427387904) (hav : 0 ≤ g a ∧ g a < 4294967296) (ho : 65536 ≤ out.size) :
    Calls Tryd.prog 23 #[.agg #[.slice B m k, .int .i64 d], .string inp, .agg (stc pc g (.slice A n c) rd out st en), .agg #[.int .i64 24, .int .i64 (a : Int), .int .i64 (b : Int), .int .i64 cc]] w fun e w' => e = .returned (.tuple #[.agg (stc (pc + 1) g (.slice A n c) rd out st en), .int .i64 4]) ∧ Below w.heap.size w w' := by
  have hk := ((((Kx.nil none w).more (.cells #[.slice B m k, .int .i64 d] 24 (0, 0))).add (w.heap.size + 1) (by simp) (.cells (stc pc g (.slice A n c) rd out st en) 30 (0, 0))).add (w.heap.size + 1 + 1) (by simp) (.cells #[.int .i64 24, .int .i64 (a : Int), .int .i64 (b : Int), .int .i64 cc] 40 (0, 0))).add (w.heap.size + 1 + 1 + 1) (by simp) (.cells #[.int .i64 0, .int .u32 0, .int .u32 0, .int .u32 0, .int .u32 0, .int .u32 0, .int .u32 0, .int .u32 0, .int .u32 0, .int .u32 0, .int .u32 0, .int .u32 0, .int .u32 0, .int .u32 0, .int .u32 0, .int .u32 0, .int .u32 0, .slice none 0 0, .int .i64 0, .string ⟨#[]⟩, .int .i64 0, .int .i64 0] 30 (0, 0))
  obtain ⟨W0, hW0⟩ : ∃ W, (((w.alloc (.cells #[.slice B m k, .int .i64 d] 24 (0, 0))).alloc (.cells (stc pc g (.slice A n c) rd out st en) 30 (0, 0))).alloc (.cells #[.int .i64 24, .int .i64 (a : Int), .int .i64 (b : Int), .int .i64 cc] 40 (0, 0))).alloc (.cells #[.int .i64 0, .int .u32 0, .int .u32 0, .int .u32 0, .int .u32 0, .int .u32 0, .int .u32 0, .int .u32 0, .int .u32 0, .int .u32 0, .int .u32 0, .int .u32 0, .int .u32 0, .int .u32 0, .int .u32 0, .int .u32 0, .int .u32 0, .slice none 0 0, .int .i64 0, .string ⟨#[]⟩, .int .i64 0, .int .i64 0] 30 (0, 0)) = W := ⟨_, rfl⟩
  rw [hW0] at hk
  have y1 := row_cell (hk.at 2 rfl) 1 (v := .int .i64 (a : Int)) rfl
  have y3 := row_cell (hk.at 2 rfl) 3 (v := .int .i64 cc) rfl
  have za := row_cell (hk.at 1 rfl) (1 + a) (stc_get pc g (.slice A n c) rd out st en a ha)
  have zp := row_cell (hk.drew.at 1 rfl) 0 (stc_pc pc g (.slice A n c) rd out st en)
  have fp := row_froz (hk.drew.at 1 rfl) 0
  have a0 : (0 : Int) ≤ (a : Int) := by omega
  have a1 : (a : Int) < 16 := by omega
  have e1 : IntKind.u32.wrap cc = cc := by rw [IntKind.wrap_u32]; omega
  have w1 : IntKind.i64.wrap (pc + 1) = pc + 1 := by rw [IntKind.wrap_i64]; omega
  have k1 := (hk.putc 1 rfl (.inr (by omega)) 0 (.int .i64 (pc + 1)) (set_pc pc g (.slice A n c) rd out st en (pc + 1))).drew
  obtain ⟨W1, hW1⟩ : ∃ W, (W0.setCell ⟨w.heap.size + 1, 0, none⟩ (.int .i64 (pc + 1))).drew = W := ⟨_, rfl⟩
  rw [hW1] at k1
  have x0 := row_cell (k1.at 2 rfl) 0 (v := .int .i64 24) rfl
  have g0 := Lib.hid (k1.at 1 rfl)
  have gi := Lib.hid (k1.at 2 rfl)
  have HK := Lib.hid k1
  have cs := fun W => put9_no (pc + 1) g A n c rd out st en (g a) W ho
  have CS := Lib.hid cs
  clear hk k1 cs
  go_enter Tryd.func23, Tryd.ntmps23
  go_upto_region 1 with fail
  refine wp_region_still_lit (by kernel_rfl) (by kernel_rfl) ?_
  repeat still_step
  refine wpStill_nil ?_
  go_upto_region 3 with fail
  clear y1 y3 za zp fp
  go_upto_region 33 with fail
  go_wp2_with (first
    | (refine wpList_load_row rfl 30 _ rfl _ rfl 30 _ _ _ g0.out Tryd.underlying30 rfl (infoS2 rfl) ?_)
    | fail)
  refine (CS.out _).mono ?_
  rintro e w2 ⟨rfl, hb2⟩
  have kz := HK.out.after hb2
  have hz := kz.putRow 3 rfl (.inr (by omega)) (stc (pc + 1) g (.slice A n c) rd out st en)
  replace g0 := Lib.hid (kz.at 1 rfl)
  have g1 := Lib.hid (kz.at 3 rfl)
  have g2 := Lib.hid (hz.at 3 rfl)
  have HB := Lib.hid hz.be.plain
  have S1 : Hid ((stc (pc + 1) g (.slice A n c) rd out st en).all (·.oneCell') = true) := Lib.hid (stc_one _ _ _ _ _ _ _ _ _)
  clear kz hz hb2
  go_wp2_with (first
    | (refine wpList_store_rowTo rfl 30 _ _ rfl rfl _ _ rfl rfl 30 _ g1.out (infoS2 rfl) rfl S1.out ?_)
    | fail)
  exact bodyPost_ret (results_row_tmp rfl _ _ _ 30 (stc (pc + 1) g (.slice A n c) rd out st en) _ _ _ rfl rfl g2.out Tryd.underlying30 rfl (infoS2 rfl)) rfl ⟨rfl, HB.out⟩
set_option maxRecDepth 100000 in
set_option maxHeartbeats 4000000 in
theorem do9_ap (pc : Int) (g : Nat → Int) (A : Option Addr) (n c : Nat) (rd : Int) (out : ByteArray) (st en : Int) {B : Option Addr} {m k : Nat} {d : Int} (inp : ByteArray) {o : Int} (x : Int) {a b r : Nat} (w : World) (ha : a < 16) (hb : b < 16) (hp : -4611686018427387904 ≤ pc ∧ pc ≤ 4611686018427387904) (ho : 4 ≤ o ∧ o ≤ 15) (hr16 : r < 16) (hbv : 0 ≤ g b ∧ g b < 4294967296) (hrv : 0 ≤ g r ∧ g r < 4294967296) (hx : (if er o (g r) = 0 then (0 : Int) else 2) = x) :
    Calls Tryd.prog 23 #[.agg #[.slice B m k, .int .i64 d], .string inp, .agg (stc pc g (.slice A n c) rd out st en), .agg #[.int .i64 o, .int .i64 (a : Int), .int .i64 (b : Int), .int .i64 (r : Int)]] w fun e w' => e = .returned (.tuple #[.agg (stc (pc + 1) (gset g a (ap o (g b) (g r))) (.slice A n c) rd out st en), .int .i64 x]) ∧ Below w.heap.size w w' := by
  have hk := ((((Kx.nil none w).more (.cells #[.slice B m k, .int .i64 d] 24 (0, 0))).add (w.heap.size + 1) (by simp) (.cells (stc pc g (.slice A n c) rd out st en) 30 (0, 0))).add (w.heap.size + 1 + 1) (by simp) (.cells #[.int .i64 o, .int .i64 (a : Int), .int .i64 (b : Int), .int .i64 (r : Int)] 40 (0, 0))).add (w.heap.size + 1 + 1 + 1) (by simp) (.cells #[.int .i64 0, .int .u32 0, .int .u32 0, .int .u32 0, .int .u32 0, .int .u32 0, .int .u32 0, .int .u32 0, .int .u32 0, .int .u32 0, .int .u32 0, .int .u32 0, .int .u32 0, .int .u32 0, .int .u32 0, .int .u32 0, .int .u32 0, .slice none 0 0, .int .i64 0, .string ⟨#[]⟩, .int .i64 0, .int .i64 0] 30 (0, 0))
  obtain ⟨W0, hW0⟩ : ∃ W, (((w.alloc (.cells #[.slice B m k, .int .i64 d] 24 (0, 0))).alloc (.cells (stc pc g (.slice A n c) rd out st en) 30 (0, 0))).alloc (.cells #[.int .i64 o, .int .i64 (a : Int), .int .i64 (b : Int), .int .i64 (r : Int)] 40 (0, 0))).alloc (.cells #[.int .i64 0, .int .u32 0, .int .u32 0, .int .u32 0, .int .u32 0, .int .u32 0, .int .u32 0, .int .u32 0, .int .u32 0, .int .u32 0, .int .u32 0, .int .u32 0, .int .u32 0, .int .u32 0, .int .u32 0, .int .u32 0, .int .u32 0, .slice none 0 0, .int .i64 0, .string ⟨#[]⟩, .int .i64 0, .int .i64 0] 30 (0, 0)) = W := ⟨_, rfl⟩
  rw [hW0] at hk
  have y1 := row_cell (hk.at 2 rfl) 1 (v := .int .i64 (a : Int)) rfl
  have y3 := row_cell (hk.at 2 rfl) 3 (v := .int .i64 (r : Int)) rfl
  have za := row_cell (hk.at 1 rfl) (1 + a) (stc_get pc g (.slice A n c) rd out st en a ha)
  have zp := row_cell (hk.drew.at 1 rfl) 0 (stc_pc pc g (.slice A n c) rd out st en)
  have fp := row_froz (hk.drew.at 1 rfl) 0
  have a0 : (0 : Int) ≤ (a : Int) := by omega
  have a1 : (a : Int) < 16 := by omega
  have e1 : IntKind.u32.wrap (r : Int) = (r : Int) := by rw [IntKind.wrap_u32]; omega
  have w1 : IntKind.i64.wrap (pc + 1) = pc + 1 := by rw [IntKind.wrap_i64]; omega
  have k1 := (hk.putc 1 rfl (.inr (by omega)) 0 (.int .i64 (pc + 1)) (set_pc pc g (.slice A n c) rd out st en (pc + 1))).drew
  obtain ⟨W1, hW1⟩ : ∃ W, (W0.setCell ⟨w.heap.size + 1, 0, none⟩ (.int .i64 (pc + 1))).drew = W := ⟨_, rfl⟩
  rw [hW1] at k1
  have x0 := row_cell (k1.at 2 rfl) 0 (v := .int .i64 o) rfl
  have n1 : (o == 1) = false := beq_eq_false_iff_ne.2 (by omega)
  have n2 : (o == 2) = false := beq_eq_false_iff_ne.2 (by omega)
  have n3 : (o == 3) = false := beq_eq_false_iff_ne.2 (by omega)
  have n16 : (o == 16) = false := beq_eq_false_iff_ne.2 (by omega)
  have n17 : (o == 17) = false := beq_eq_false_iff_ne.2 (by omega)
  have n27 : (o == 27) = false := beq_eq_false_iff_ne.2 (by omega)
  have n18 : (o == 18) = false := beq_eq_false_iff_ne.2 (by omega)
  have n19 : (o == 19) = false := beq_eq_false_iff_ne.2 (by omega)
  have n20 : (o == 20) = false := beq_eq_false_iff_ne.2 (by omega)
  have n21 : (o == 21) = false := beq_eq_false_iff_ne.2 (by omega)
  have n22 : (o == 22) = false := beq_eq_false_iff_ne.2 (by omega)
  have n23 : (o == 23) = false := beq_eq_false_iff_ne.2 (by omega)
  have n24 : (o == 24) = false := beq_eq_false_iff_ne.2 (by omega)
  have n25 : (o == 25) = false := beq_eq_false_iff_ne.2 (by omega)
  have n26 : (o == 26) = false := beq_eq_false_iff_ne.2 (by omega)
  have g0 := Lib.hid (k1.at 1 rfl)
  have gi := Lib.hid (k1.at 2 rfl)
  have HK := Lib.hid k1
  have cs := fun W => apply9 (pc + 1) g A n c rd out st en (o := o) x W ha hb hr16 hbv hrv hx
  have CS := Lib.hid cs
  clear hk k1 cs
  go_enter Tryd.func23, Tryd.ntmps23
  go_upto_region 1 with fail
  refine wp_region_still_lit (by kernel_rfl) (by kernel_rfl) ?_
  repeat still_step
  refine wpStill_nil ?_
  go_upto_region 3 with fail
  clear y1 y3 za zp fp
  go_upto_region 4 with fail
  go_wp2_with (first
    | (refine wpList_load_row rfl 30 _ rfl _ rfl 30 _ _ _ g0.out Tryd.underlying30 rfl (infoS2 rfl) ?_)
    | (refine wpList_load_row rfl 40 _ rfl _ rfl 40 _ _ _ gi.out Tryd.underlying40 rfl (infoI2 rfl) ?_)
    | fail)
  refine (CS.out _).mono ?_
  rintro e w2 ⟨rfl, hb2⟩
  have kz := HK.out.after hb2
  have hz := kz.putRow 3 rfl (.inr (by omega)) (stc (pc + 1) (gset g a (ap o (g b) (g r))) (.slice A n c) rd out st en)
  replace g0 := Lib.hid (kz.at 1 rfl)
  have g1 := Lib.hid (kz.at 3 rfl)
  have g2 := Lib.hid (hz.at 3 rfl)
  have HB := Lib.hid hz.be.plain
  have S1 : Hid ((stc (pc + 1) (gset g a (ap o (g b) (g r))) (.slice A n c) rd out st en).all (·.oneCell') = true) := Lib.hid (stc_one _ _ _ _ _ _ _ _ _)
  clear kz hz hb2
  go_wp2_with (first
    | (refine wpList_store_rowTo rfl 30 _ _ rfl rfl _ _ rfl rfl 30 _ g1.out (infoS2 rfl) rfl S1.out ?_)
    | fail)
  exact bodyPost_ret (results_row_tmp rfl _ _ _ 30 (stc (pc + 1) (gset g a (ap o (g b) (g r))) (.slice A n c) rd out st en) _ _ _ rfl rfl g2.out Tryd.underlying30 rfl (infoS2 rfl)) rfl ⟨rfl, HB.out⟩
end Go.Proofs.YtgojpflkhnaedaaDoor
