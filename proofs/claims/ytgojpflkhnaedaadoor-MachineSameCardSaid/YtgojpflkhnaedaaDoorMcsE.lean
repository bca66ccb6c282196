/- Layer 9 (machine), the program's code: do: ld, st, ldc. -/
import Derived.Test.YtgojpflkhnaedaaDoorMcsC
import Derived.Test.YtgojpflkhnaedaaDoorMchO
set_option linter.unusedVariables false
namespace Go.Proofs.YtgojpflkhnaedaaDoor
open Go.RowKit

set_option maxRecDepth 100000 in
set_option maxHeartbeats 4000000 in
theorem do9_ld_yes (pc : Int) (g : Nat → Int) (A : Option Addr) (n c : Nat) (rd : Int) (out : ByteArray) (st en : Int) {B : Option Addr} {m k : Nat} {d : Int} (inp : ByteArray) {l : List Int} {a b : Nat} {cc : Int} (w : World) (ha : a < 16) (hb : b < 16) (hcc : 0 ≤ cc ∧ cc ≤ 65535) (hp : -4611686018427387904 ≤ pc ∧ pc ≤ 4611686018427387904) (hbv : 0 ≤ g b ∧ g b < 4294967296) (hR : Rd w A n l) (hm : n ≤ 1073741824) (hh : whs l (g b) cc = true) :
    Calls Tryd.prog 23 #[.agg #[.slice B m k, .int .i64 d], .string inp, .agg (stc pc g (.slice A n c) rd out st en), .agg #[.int .i64 16, .int .i64 (a : Int), .int .i64 (b : Int), .int .i64 cc]] w fun e w' => e = .returned (.tuple #[.agg (stc (pc + 1) (gset g a (wof l (g b) cc)) (.slice A n c) rd out st en), .int .i64 0]) ∧ Below w.heap.size w w' := by
  have hk := ((((Kx.nil none w).more (.cells #[.slice B m k, .int .i64 d] 24 (0, 0))).add (w.heap.size + 1) (by simp) (.cells (stc pc g (.slice A n c) rd out st en) 30 (0, 0))).add (w.heap.size + 1 + 1) (by simp) (.cells #[.int .i64 16, .int .i64 (a : Int), .int .i64 (b : Int), .int .i64 cc] 40 (0, 0))).add (w.heap.size + 1 + 1 + 1) (by simp) (.cells #[.int .i64 0, .int .u32 0, .int .u32 0, .int .u32 0, .int .u32 0, .int .u32 0, .int .u32 0, .int .u32 0, .int .u32 0, .int .u32 0, .int .u32 0, .int .u32 0, .int .u32 0, .int .u32 0, .int .u32 0, .int .u32 0, .int .u32 0, .slice none 0 0, .int .i64 0, .string ⟨#[]⟩, .int .i64 0, .int .i64 0] 30 (0, 0))
  obtain ⟨W0, hW0⟩ : ∃ W, (((w.alloc (.cells #[.slice B m k, .int .i64 d] 24 (0, 0))).alloc (.cells (stc pc g (.slice A n c) rd out st en) 30 (0, 0))).alloc (.cells #[.int .i64 16, .int .i64 (a : Int), .int .i64 (b : Int), .int .i64 cc] 40 (0, 0))).alloc (.cells #[.int .i64 0, .int .u32 0, .int .u32 0, .int .u32 0, .int .u32 0, .int .u32 0, .int .u32 0, .int .u32 0, .int .u32 0, .int .u32 0, .int .u32 0, .int .u32 0, .int .u32 0, .int .u32 0, .int .u32 0, .int .u32 0, .int .u32 0, .slice none 0 0, .int .i64 0, .string ⟨#[]⟩, .int .i64 0, .int .i64 0] 30 (0, 0)) = W := ⟨_, rfl⟩
  rw [hW0] at hk
  have y1 := row_cell (hk.at 2 rfl) 1 (v := .int .i64 (a : Int)) rfl
  have y3 := row_cell (hk.at 2 rfl) 3 (v := .int .i64 cc) rfl
  have za := row_cell (hk.at 1 rfl) (1 + a) (stc_get pc g (.slice A n c) rd out st en a ha)
  have zp := row_cell (hk.drew.at 1 rfl) 0 (stc_pc pc g (.slice A n c) rd out st en)
  have fp := row_froz (hk.drew.at 1 rfl) 0
  have a0 : (0 : Int) ≤ (a : Int) := by omega
  have a1 : (a : Int) < 16 := by omega
  have e1 : IntKind.u32.wrap cc = cc := by rw [IntKind.wrap_u32]; omega
  have w1 : IntKind.i64.wrap (pc + 1) = pc + 1 := by rw [IntKind.wrap_i64]; omega
  have k1 := (hk.putc 1 rfl (.inr (by omega)) 0 (.int .i64 (pc + 1)) (set_pc pc g (.slice A n c) rd out st en (pc + 1))).drew
  obtain ⟨W1, hW1⟩ : ∃ W, (W0.setCell ⟨w.heap.size + 1, 0, none⟩ (.int .i64 (pc + 1))).drew = W := ⟨_, rfl⟩
  rw [hW1] at k1
  have x0 := row_cell (k1.at 2 rfl) 0 (v := .int .i64 16) rfl
  have c17 := row_cell (k1.at 1 rfl) 17 (stc_mem (pc + 1) g (.slice A n c) rd out st en)
  have g0 := Lib.hid (k1.at 1 rfl)
  have gi := Lib.hid (k1.at 2 rfl)
  have HK := Lib.hid k1
  have cs := fun W (h : Rd W A n l) => load9_yes (pc + 1) g A n c rd out st en (o := 16) (k := c) W ha hb hbv hcc h hm hh
  have CS := Lib.hid cs
  have HR := Lib.hid (hR.below k1.be.plain)
  clear hk k1 cs
  go_enter Tryd.func23, Tryd.ntmps23
  go_upto_region 1 with fail
  refine wp_region_still_lit (by kernel_rfl) (by kernel_rfl) ?_
  repeat still_step
  refine wpStill_nil ?_
  go_upto_region 3 with fail
  clear y1 y3 za zp fp
  go_upto_region 12 with fail
  go_wp2_with (first
    | (refine wpList_load_row rfl 30 _ rfl _ rfl 30 _ _ _ g0.out Tryd.underlying30 rfl (infoS2 rfl) ?_)
    | (refine wpList_load_row rfl 40 _ rfl _ rfl 40 _ _ _ gi.out Tryd.underlying40 rfl (infoI2 rfl) ?_)
    | fail)
  refine (CS.out _ HR.out).mono ?_
  rintro e w2 ⟨rfl, hb2⟩
  have kz := HK.out.after hb2
  have hz := kz.putRow 3 rfl (.inr (by omega)) (stc (pc + 1) (gset g a (wof l (g b) cc)) (.slice A n c) rd out st en)
  replace g0 := Lib.hid (kz.at 1 rfl)
  have g1 := Lib.hid (kz.at 3 rfl)
  have g2 := Lib.hid (hz.at 3 rfl)
  have HB := Lib.hid hz.be.plain
  have S1 : Hid ((stc (pc + 1) (gset g a (wof l (g b) cc)) (.slice A n c) rd out st en).all (·.oneCell') = true) := Lib.hid (stc_one _ _ _ _ _ _ _ _ _)
  clear kz hz hb2
  go_wp2_with (first
    | (refine wpList_store_rowTo rfl 30 _ _ rfl rfl _ _ rfl rfl 30 _ g1.out (infoS2 rfl) rfl S1.out ?_)
    | fail)
  exact bodyPost_ret (results_row_tmp rfl _ _ _ 30 (stc (pc + 1) (gset g a (wof l (g b) cc)) (.slice A n c) rd out st en) _ _ _ rfl rfl g2.out Tryd.underlying30 rfl (infoS2 rfl)) rfl ⟨rfl, HB.out⟩
set_option maxRecDepth 100000 in
set_option maxHeartbeats 4000000 in
theorem do9_ld_no (pc : Int) (g : Nat → Int) (A : Option Addr) (n c : Nat) (rd : Int) (out : ByteArray) (st en : Int) {B : Option Addr} {m k : Nat} {d : Int} (inp : ByteArray) {l : List Int} {a b : Nat} {cc : Int} (w : World) (ha : a < 16) (hb : b < 16) (hcc : 0 ≤ cc ∧ cc ≤ 65535) (hp : -4611686018427387904 ≤ pc ∧ pc ≤ 4611686018427387904) (hbv : 0 ≤ g b ∧ g b < 4294967296) (hR : Rd w A n l) (hm : n ≤ 1073741824) (hh : whs l (g b) cc = false) :
    Calls Tryd.prog 23 #[.agg #[.slice B m k, .int .i64 d], .string inp, .agg (stc pc g (.slice A n c) rd out st en), .agg #[.int .i64 16, .int .i64 (a : Int), .int .i64 (b : Int), .int .i64 cc]] w fun e w' => e = .returned (.tuple #[.agg (stc (pc + 1) g (.slice A n c) rd out st en), .int .i64 8]) ∧ Below w.heap.size w w' := by
  have hk := ((((Kx.nil none w).more (.cells #[.slice B m k, .int .i64 d] 24 (0, 0))).add (w.heap.size + 1) (by simp) (.cells (stc pc g (.slice A n c) rd out st en) 30 (0, 0))).add (w.heap.size + 1 + 1) (by simp) (.cells #[.int .i64 16, .int .i64 (a : Int), .int .i64 (b : Int), .int .i64 cc] 40 (0, 0))).add (w.heap.size + 1 + 1 + 1) (by simp) (.cells #[.int .i64 0, .int .u32 0, .int .u32 0, .int .u32 0, .int .u32 0, .int .u32 0, .int .u32 0, .int .u32 0, .int .u32 0, .int .u32 0, .int .u32 0, .int .u32 0, .int .u32 0, .int .u32 0, .int .u32 0, .int .u32 0, .int .u32 0, .slice none 0 0, .int .i64 0, .string ⟨#[]⟩, .int .i64 0, .int .i64 0] 30 (0, 0))
  obtain ⟨W0, hW0⟩ : ∃ W, (((w.alloc (.cells #[.slice B m k, .int .i64 d] 24 (0, 0))).alloc (.cells (stc pc g (.slice A n c) rd out st en) 30 (0, 0))).alloc (.cells #[.int .i64 16, .int .i64 (a : Int), .int .i64 (b : Int), .int .i64 cc] 40 (0, 0))).alloc (.cells #[.int .i64 0, .int .u32 0, .int .u32 0, .int .u32 0, .int .u32 0, .int .u32 0, .int .u32 0, .int .u32 0, .int .u32 0, .int .u32 0, .int .u32 0, .int .u32 0, .int .u32 0, .int .u32 0, .int .u32 0, .int .u32 0, .int .u32 0, .slice none 0 0, .int .i64 0, .string ⟨#[]⟩, .int .i64 0, .int .i64 0] 30 (0, 0)) = W := ⟨_, rfl⟩
  rw [hW0] at hk
  have y1 := row_cell (hk.at 2 rfl) 1 (v := .int .i64 (a : Int)) rfl
  have y3 := row_cell (hk.at 2 rfl) 3 (v := .int .i64 cc) rfl
  have za := row_cell (hk.at 1 rfl) (1 + a) (stc_get pc g (.slice A n c) rd out st en a ha)
  have zp := row_cell (hk.drew.at 1 rfl) 0 (stc_pc pc g (.slice A n c) rd out st en)
  have fp := row_froz (hk.drew.at 1 rfl) 0
  have a0 : (0 : Int) ≤ (a : Int) := by omega
  have a1 : (a : Int) < 16 := by omega
  have e1 : IntKind.u32.wrap cc = cc := by rw [IntKind.wrap_u32]; omega
  have w1 : IntKind.i64.wrap (pc + 1) = pc + 1 := by rw [IntKind.wrap_i64]; omega
  have k1 := (hk.putc 1 rfl (.inr (by omega)) 0 (.int .i64 (pc + 1)) (set_pc pc g (.slice A n c) rd out st en (pc + 1))).drew
  obtain ⟨W1, hW1⟩ : ∃ W, (W0.setCell ⟨w.heap.size + 1, 0, none⟩ (.int .i64 (pc + 1))).drew = W := ⟨_, rfl⟩
  rw [hW1] at k1
  have x0 := row_cell (k1.at 2 rfl) 0 (v := .int .i64 16) rfl
  have c17 := row_cell (k1.at 1 rfl) 17 (stc_mem (pc + 1) g (.slice A n c) rd out st en)
  have g0 := Lib.hid (k1.at 1 rfl)
  have gi := Lib.hid (k1.at 2 rfl)
  have HK := Lib.hid k1
  have cs := fun W (h : Rd W A n l) => load9_no (pc + 1) g A n c rd out st en (o := 16) (k := c) W ha hb hbv hcc h hm hh
  have CS := Lib.hid cs
  have HR := Lib.hid (hR.below k1.be.plain)
  clear hk k1 cs
  go_enter Tryd.func23, Tryd.ntmps23
  go_upto_region 1 with fail
  refine wp_region_still_lit (by kernel_rfl) (by kernel_rfl) ?_
  repeat still_step
  refine wpStill_nil ?_
  go_upto_region 3 with fail
  clear y1 y3 za zp fp
  go_upto_region 12 with fail
  go_wp2_with (first
    | (refine wpList_load_row rfl 30 _ rfl _ rfl 30 _ _ _ g0.out Tryd.underlying30 rfl (infoS2 rfl) ?_)
    | (refine wpList_load_row rfl 40 _ rfl _ rfl 40 _ _ _ gi.out Tryd.underlying40 rfl (infoI2 rfl) ?_)
    | fail)
  refine (CS.out _ HR.out).mono ?_
  rintro e w2 ⟨rfl, hb2⟩
  have kz := HK.out.after hb2
  have hz := kz.putRow 3 rfl (.inr (by omega)) (stc (pc + 1) g (.slice A n c) rd out st en)
  replace g0 := Lib.hid (kz.at 1 rfl)
  have g1 := Lib.hid (kz.at 3 rfl)
  have g2 := Lib.hid (hz.at 3 rfl)
  have HB := Lib.hid hz.be.plain
  have S1 : Hid ((stc (pc + 1) g (.slice A n c) rd out st en).all (·.oneCell') = true) := Lib.hid (stc_one _ _ _ _ _ _ _ _ _)
  clear kz hz hb2
  go_wp2_with (first
    | (refine wpList_store_rowTo rfl 30 _ _ rfl rfl _ _ rfl rfl 30 _ g1.out (infoS2 rfl) rfl S1.out ?_)
    | fail)
  exact bodyPost_ret (results_row_tmp rfl _ _ _ 30 (stc (pc + 1) g (.slice A n c) rd out st en) _ _ _ rfl rfl g2.out Tryd.underlying30 rfl (infoS2 rfl)) rfl ⟨rfl, HB.out⟩
set_option maxRecDepth 100000 in
set_option maxHeartbeats 4000000 in
theorem do9_ldc_yes (pc : Int) (g : Nat → Int) (A : Option Addr) (n c : Nat) (rd : Int) (out : ByteArray) (st en : Int) {B : Option Addr} {m k : Nat} {d : Int} (inp : ByteArray) {l : List Int} {a b : Nat} {cc : Int} (w : World) (ha : a < 16) (hb : b < 16) (hcc : 0 ≤ cc ∧ cc ≤ 65535) (hp : -4611686018427387904 ≤ pc ∧ pc ≤ 4611686018427387904) (hbv : 0 ≤ g b ∧ g b < 4294967296) (hR : Rd w B m l) (hm : m ≤ 1073741824) (hh : whs l (g b) cc = true) :
    Calls Tryd.prog 23 #[.agg #[.slice B m k, .int .i64 d], .string inp, .agg (stc pc g (.slice A n c) rd out st en), .agg #[.int .i64 27, .int .i64 (a : Int), .int .i64 (b : Int), .int .i64 cc]] w fun e w' => e = .returned (.tuple #[.agg (stc (pc + 1) (gset g a (wof l (g b) cc)) (.slice A n c) rd out st en), .int .i64 0]) ∧ Below w.heap.size w w' := by
  have hk := ((((Kx.nil none w).more (.cells #[.slice B m k, .int .i64 d] 24 (0, 0))).add (w.heap.size + 1) (by simp) (.cells (stc pc g (.slice A n c) rd out st en) 30 (0, 0))).add (w.heap.size + 1 + 1) (by simp) (.cells #[.int .i64 27, .int .i64 (a : Int), .int .i64 (b : Int), .int .i64 cc] 40 (0, 0))).add (w.heap.size + 1 + 1 + 1) (by simp) (.cells #[.int .i64 0, .int .u32 0, .int .u32 0, .int .u32 0, .int .u32 0, .int .u32 0, .int .u32 0, .int .u32 0, .int .u32 0, .int .u32 0, .int .u32 0, .int .u32 0, .int .u32 0, .int .u32 0, .int .u32 0, .int .u32 0, .int .u32 0, .slice none 0 0, .int .i64 0, .string ⟨#[]⟩, .int .i64 0, .int .i64 0] 30 (0, 0))
  obtain ⟨W0, hW0⟩ : ∃ W, (((w.alloc (.cells #[.slice B m k, .int .i64 d] 24 (0, 0))).alloc (.cells (stc pc g (.slice A n c) rd out st en) 30 (0, 0))).alloc (.cells #[.int .i64 27, .int .i64 (a : Int), .int .i64 (b : Int), .int .i64 cc] 40 (0, 0))).alloc (.cells #[.int .i64 0, .int .u32 0, .int .u32 0, .int .u32 0, .int .u32 0, .int .u32 0, .int .u32 0, .int .u32 0, .int .u32 0, .int .u32 0, .int .u32 0, .int .u32 0, .int .u32 0, .int .u32 0, .int .u32 0, .int .u32 0, .int .u32 0, .slice none 0 0, .int .i64 0, .string ⟨#[]⟩, .int .i64 0, .int .i64 0] 30 (0, 0)) = W := ⟨_, rfl⟩
  rw [hW0] at hk
  have y1 := row_cell (hk.at 2 rfl) 1 (v := .int .i64 (a : Int)) rfl
  have y3 := row_cell (hk.at 2 rfl) 3 (v := .int .i64 cc) rfl
  have za := row_cell (hk.at 1 rfl) (1 + a) (stc_get pc g (.slice A n c) rd out st en a ha)
  have zp := row_cell (hk.drew.at 1 rfl) 0 (stc_pc pc g (.slice A n c) rd out st en)
  have fp := row_froz (hk.drew.at 1 rfl) 0
  have a0 : (0 : Int) ≤ (a : Int) := by omega
  have a1 : (a : Int) < 16 := by omega
  have e1 : IntKind.u32.wrap cc = cc := by rw [IntKind.wrap_u32]; omega
  have w1 : IntKind.i64.wrap (pc + 1) = pc + 1 := by rw [IntKind.wrap_i64]; omega
  have k1 := (hk.putc 1 rfl (.inr (by omega)) 0 (.int .i64 (pc + 1)) (set_pc pc g (.slice A n c) rd out st en (pc + 1))).drew
  obtain ⟨W1, hW1⟩ : ∃ W, (W0.setCell ⟨w.heap.size + 1, 0, none⟩ (.int .i64 (pc + 1))).drew = W := ⟨_, rfl⟩
  rw [hW1] at k1
  have x0 := row_cell (k1.at 2 rfl) 0 (v := .int .i64 27) rfl
  have c4 := row_cell (k1.at 0 rfl) 0 (v := .slice B m k) rfl
  have g0 := Lib.hid (k1.at 1 rfl)
  have gi := Lib.hid (k1.at 2 rfl)
  have HK := Lib.hid k1
  have cs := fun W (h : Rd W B m l) => load9_yes (pc + 1) g A n c rd out st en (o := 27) (k := k) W ha hb hbv hcc h hm hh
  have CS := Lib.hid cs
  have HR := Lib.hid (hR.below k1.be.plain)
  clear hk k1 cs
  go_enter Tryd.func23, Tryd.ntmps23
  go_upto_region 1 with fail
  refine wp_region_still_lit (by kernel_rfl) (by kernel_rfl) ?_
  repeat still_step
  refine wpStill_nil ?_
  go_upto_region 3 with fail
  clear y1 y3 za zp fp
  go_upto_region 16 with fail
  go_wp2_with (first
    | (refine wpList_load_row rfl 30 _ rfl _ rfl 30 _ _ _ g0.out Tryd.underlying30 rfl (infoS2 rfl) ?_)
    | (refine wpList_load_row rfl 40 _ rfl _ rfl 40 _ _ _ gi.out Tryd.underlying40 rfl (infoI2 rfl) ?_)
    | fail)
  refine (CS.out _ HR.out).mono ?_
  rintro e w2 ⟨rfl, hb2⟩
  have kz := HK.out.after hb2
  have hz := kz.putRow 3 rfl (.inr (by omega)) (stc (pc + 1) (gset g a (wof l (g b) cc)) (.slice A n c) rd out st en)
  replace g0 := Lib.hid (kz.at 1 rfl)
  have g1 := Lib.hid (kz.at 3 rfl)
  have g2 := Lib.hid (hz.at 3 rfl)
  have HB := Lib.hid hz.be.plain
  have S1 : Hid ((stc (pc + 1) (gset g a (wof l (g b) cc)) (.slice A n c) rd out st en).all (·.oneCell') = true) := Lib.hid (stc_one _ _ _ _ _ _ _ _ _)
  clear kz hz hb2
  go_wp2_with (first
    | (refine wpList_store_rowTo rfl 30 _ _ rfl rfl _ _ rfl rfl 30 _ g1.out (infoS2 rfl) rfl S1.out ?_)
    | fail)
  exact bodyPost_ret (results_row_tmp rfl _ _ _ 30 (stc (pc + 1) (gset g a (wof l (g b) cc)) (.slice A n c) rd out st en) _ _ _ rfl rfl g2.out Tryd.underlying30 rfl (infoS2 rfl)) rfl ⟨rfl, HB.out⟩
set_option maxRecDepth 100000 in
set_option maxHeartbeats 4000000 in
theorem do9_ldc_no (pc : Int) (g : Nat → Int) (A : Option Addr) (n c : Nat) (rd : Int) (out : ByteArray) (st en : Int) {B : Option Addr} {m k : Nat} {d : Int} (inp : ByteArray) {l : List Int} {a b : Nat} {cc : Int} (w : World) (ha : a < 16) (hb : b < 16) (hcc : 0 ≤ cc ∧ cc ≤ 65535) (hp : -4611686018427387904 ≤ pc ∧ pc ≤ 4611686018427387904) (hbv : 0 ≤ g b ∧ g b < 4294967296) (hR : Rd w B m l) (hm : m ≤ 1073741824) (hh : whs l (g b) cc = false) :
    Calls Tryd.prog 23 #[.agg #[.slice B m k, .int .i64 d], .string inp, .agg (stc pc g (.slice A n c) rd out st en), .agg #[.int .i64 27, .int .i64 (a : Int), .int .i64 (b : Int), .int .i64 cc]] w fun e w' => e = .returned (.tuple #[.agg (stc (pc + 1) g (.slice A n c) rd out st en), .int .i64 8]) ∧ Below w.heap.size w w' := by
  have hk := ((((Kx.nil none w).more (.cells #[.slice B m k, .int .i64 d] 24 (0, 0))).add (w.heap.size + 1) (by simp) (.cells (stc pc g (.slice A n c) rd out st en) 30 (0, 0))).add (w.heap.size + 1 + 1) (by simp) (.cells #[.int .i64 27, .int .i64 (a : Int), .int .i64 (b : Int), .int .i64 cc] 40 (0, 0))).add (w.heap.size + 1 + 1 + 1) (by simp) (.cells #[.int .i64 0, .int .u32 0, .int .u32 0, .int .u32 0, .int .u32 0, .int .u32 0, .int .u32 0, .int .u32 0, .int .u32 0, .int .u32 0, .int .u32 0, .int .u32 0, .int .u32 0, .int .u32 0, .int .u32 0, .int .u32 0, .int .u32 0, .slice none 0 0, .int .i64 0, .string ⟨#[]⟩, .int .i64 0, .int .i64 0] 30 (0, 0))
  obtain ⟨W0, hW0⟩ : ∃ W, (((w.alloc (.cells #[.slice B m k, .int .i64 d] 24 (0, 0))).alloc (.cells (stc pc g (.slice A n c) rd out st en) 30 (0, 0))).alloc (.cells #[.int .i64 27, .int .i64 (a : Int), .int .i64 (b : Int), .int .i64 cc] 40 (0, 0))).alloc (.cells #[.int .i64 0, .int .u32 0, .int .u32 0, .int .u32 0, .int .u32 0, .int .u32 0, .int .u32 0, .int .u32 0, .int .u32 0, .int .u32 0, .int .u32 0, .int .u32 0, .int .u32 0, .int .u32 0, .int .u32 0, .int .u32 0, .int .u32 0, .slice none 0 0, .int .i64 0, .string ⟨#[]⟩, .int .i64 0, .int .i64 0] 30 (0, 0)) = W := ⟨_, rfl⟩
  rw [hW0] at hk
  have y1 := row_cell (hk.at 2 rfl) 1 (v := .int .i64 (a : Int)) rfl
  have y3 := row_cell (hk.at 2 rfl) 3 (v := .int .i64 cc) rfl
  have za := row_cell (hk.at 1 rfl) (1 + a) (stc_get pc g (.slice A n c) rd out st en a ha)
  have zp := row_cell (hk.drew.at 1 rfl) 0 (stc_pc pc g (.slice A n c) rd out st en)
  have fp := row_froz (hk.drew.at 1 rfl) 0
  have a0 : (0 : Int) ≤ (a : Int) := by omega
  have a1 : (a : Int) < 16 := by omega
  have e1 : IntKind.u32.wrap cc = cc := by rw [IntKind.wrap_u32]; omega
  have w1 : IntKind.i64.wrap (pc + 1) = pc + 1 := by rw [IntKind.wrap_i64]; omega
  have k1 := (hk.putc 1 rfl (.inr (by omega)) 0 (.int .i64 (pc + 1)) (set_pc pc g (.slice A n c) rd out st en (pc + 1))).drew
  obtain ⟨W1, hW1⟩ : ∃ W, (W0.setCell ⟨w.heap.size + 1, 0, none⟩ (.int .i64 (pc + 1))).drew = W := ⟨_, rfl⟩
  rw [hW1] at k1
  have x0 := row_cell (k1.at 2 rfl) 0 (v := .int .i64 27) rfl
  have c4 := row_cell (k1.at 0 rfl) 0 (v := .slice B m k) rfl
  have g0 := Lib.hid (k1.at 1 rfl)
  have gi := Lib.hid (k1.at 2 rfl)
  have HK := Lib.hid k1
  have cs := fun W (h : Rd W B m l) => load9_no (pc + 1) g A n c rd out st en (o := 27) (k := k) W ha hb hbv hcc h hm hh
  have CS := Lib.hid cs
  have HR := Lib.hid (hR.below k1.be.plain)
  clear hk k1 cs
  go_enter Tryd.func23, Tryd.ntmps23
  go_upto_region 1 with fail
  refine wp_region_still_lit (by kernel_rfl) (by kernel_rfl) ?_
  repeat still_step
  refine wpStill_nil ?_
  go_upto_region 3 with fail
  clear y1 y3 za zp fp
  go_upto_region 16 with fail
  go_wp2_with (first
    | (refine wpList_load_row rfl 30 _ rfl _ rfl 30 _ _ _ g0.out Tryd.underlying30 rfl (infoS2 rfl) ?_)
    | (refine wpList_load_row rfl 40 _ rfl _ rfl 40 _ _ _ gi.out Tryd.underlying40 rfl (infoI2 rfl) ?_)
    | fail)
  refine (CS.out _ HR.out).mono ?_
  rintro e w2 ⟨rfl, hb2⟩
  have kz := HK.out.after hb2
  have hz := kz.putRow 3 rfl (.inr (by omega)) (stc (pc + 1) g (.slice A n c) rd out st en)
  replace g0 := Lib.hid (kz.at 1 rfl)
  have g1 := Lib.hid (kz.at 3 rfl)
  have g2 := Lib.hid (hz.at 3 rfl)
  have HB := Lib.hid hz.be.plain
  have S1 : Hid ((stc (pc + 1) g (.slice A n c) rd out st en).all (·.oneCell') = true) := Lib.hid (stc_one _ _ _ _ _ _ _ _ _)
  clear kz hz hb2
  go_wp2_with (first
    | (refine wpList_store_rowTo rfl 30 _ _ rfl rfl _ _ rfl rfl 30 _ g1.out (infoS2 rfl) rfl S1.out ?_)
    | fail)
  exact bodyPost_ret (results_row_tmp rfl _ _ _ 30 (stc (pc + 1) g (.slice A n c) rd out st en) _ _ _ rfl rfl g2.out Tryd.underlying30 rfl (infoS2 rfl)) rfl ⟨rfl, HB.out⟩
set_option maxRecDepth 100000 in
set_option maxHeartbeats 4000000 in
theorem do9_st_no (pc : Int) (g : Nat → Int) (A : Option Addr) (n c : Nat) (rd : Int) (out : ByteArray) (st en : Int) {B : Option Addr} {m k : Nat} {d : Int} (inp : ByteArray) {l : List Int} {a b : Nat} {cc : Int} (w : World) (ha : a < 16) (hb : b < 16) (hcc : 0 ≤ cc ∧ cc ≤ 65535) (hp : -4611686018427387904 ≤ pc ∧ pc ≤ 4611686018427387904) (hbv : 0 ≤ g b ∧ g b < 4294967296) (hav : 0 ≤ g a ∧ g a < 4294967296) (hR : Rd w A n l) (hm : n ≤ 1073741824) (hh : whs l (g b) cc = false) :
    Calls Tryd.prog 23 #[.agg #[.slice B m k, .int .i64 d], .string inp, .agg (stc pc g (.slice A n c) rd out st en), .agg #[.int .i64 17, .int .i64 (a : Int), .int .i64 (b : Int), .int .i64 cc]] w fun e w' => e = .returned (.tuple #[.agg (stc (pc + 1) g (.slice A n c) rd out st en), .int .i64 8]) ∧ Below w.heap.size w w' := by
  have hk := ((((Kx.nil none w).more (.cells #[.slice B m k, .int .i64 d] 24 (0, 0))).add (w.heap.size + 1) (by simp) (.cells (stc pc g (.slice A n c) rd out st en) 30 (0, 0))).add (w.heap.size + 1 + 1) (by simp) (.cells #[.int .i64 17, .int .i64 (a : Int), .int .i64 (b : Int), .int .i64 cc] 40 (0, 0))).add (w.heap.size + 1 + 1 + 1) (by simp) (.cells #[.int .i64 0, .int .u32 0, .int .u32 0, .int .u32 0, .int .u32 0, .int .u32 0, .int .u32 0, .int .u32 0, .int .u32 0, .int .u32 0, .int .u32 0, .int .u32 0, .int .u32 0, .int .u32 0, .int .u32 0, .int .u32 0, .int .u32 0, .slice none 0 0, .int .i64 0, .string ⟨#[]⟩, .int .i64 0, .int .i64 0] 30 (0, 0))
  obtain ⟨W0, hW0⟩ : ∃ W, (((w.alloc (.cells #[.slice B m k, .int .i64 d] 24 (0, 0))).alloc (.cells (stc pc g (.slice A n c) rd out st en) 30 (0, 0))).alloc (.cells #[.int .i64 17, .int .i64 (a : Int), .int .i64 (b : Int), .int .i64 cc] 40 (0, 0))).alloc (.cells #[.int .i64 0, .int .u32 0, .int .u32 0, .int .u32 0, .int .u32 0, .int .u32 0, .int .u32 0, .int .u32 0, .int .u32 0, .int .u32 0, .int .u32 0, .int .u32 0, .int .u32 0, .int .u32 0, .int .u32 0, .int .u32 0, .int .u32 0, .slice none 0 0, .int .i64 0, .string ⟨#[]⟩, .int .i64 0, .int .i64 0] 30 (0, 0)) = W := ⟨_, rfl⟩
  rw [hW0] at hk
  have y1 := row_cell (hk.at 2 rfl) 1 (v := .int .i64 (a : Int)) rfl
  have y3 := row_cell (hk.at 2 rfl) 3 (v := .int .i64 cc) rfl
  have za := row_cell (hk.at 1 rfl) (1 + a) (stc_get pc g (.slice A n c) rd out st en a ha)
  have zp := row_cell (hk.drew.at 1 rfl) 0 (stc_pc pc g (.slice A n c) rd out st en)
  have fp := row_froz (hk.drew.at 1 rfl) 0
  have a0 : (0 : Int) ≤ (a : Int) := by omega
  have a1 : (a : Int) < 16 := by omega
  have e1 : IntKind.u32.wrap cc = cc := by rw [IntKind.wrap_u32]; omega
  have w1 : IntKind.i64.wrap (pc + 1) = pc + 1 := by rw [IntKind.wrap_i64]; omega
  have k1 := (hk.putc 1 rfl (.inr (by omega)) 0 (.int .i64 (pc + 1)) (set_pc pc g (.slice A n c) rd out st en (pc + 1))).drew
  obtain ⟨W1, hW1⟩ : ∃ W, (W0.setCell ⟨w.heap.size + 1, 0, none⟩ (.int .i64 (pc + 1))).drew = W := ⟨_, rfl⟩
  rw [hW1] at k1
  have x0 := row_cell (k1.at 2 rfl) 0 (v := .int .i64 17) rfl
  have g0 := Lib.hid (k1.at 1 rfl)
  have gi := Lib.hid (k1.at 2 rfl)
  have HK := Lib.hid k1
  have cs := fun W (h : Rd W A n l) => store9_no (pc + 1) g A n c rd out st en (o := 17) W ha hb hbv hcc hav h hm hh
  have CS := Lib.hid cs
  have HR := Lib.hid (hR.below k1.be.plain)
  clear hk k1 cs
  go_enter Tryd.func23, Tryd.ntmps23
  go_upto_region 1 with fail
  refine wp_region_still_lit (by kernel_rfl) (by kernel_rfl) ?_
  repeat still_step
  refine wpStill_nil ?_
  go_upto_region 3 with fail
  clear y1 y3 za zp fp
  go_upto_region 14 with fail
  go_wp2_with (first
    | (refine wpList_load_row rfl 30 _ rfl _ rfl 30 _ _ _ g0.out Tryd.underlying30 rfl (infoS2 rfl) ?_)
    | (refine wpList_load_row rfl 40 _ rfl _ rfl 40 _ _ _ gi.out Tryd.underlying40 rfl (infoI2 rfl) ?_)
    | fail)
  refine (CS.out _ HR.out).mono ?_
  rintro e w2 ⟨rfl, hb2⟩
  have kz := HK.out.after hb2
  have hz := kz.putRow 3 rfl (.inr (by omega)) (stc (pc + 1) g (.slice A n c) rd out st en)
  replace g0 := Lib.hid (kz.at 1 rfl)
  have g1 := Lib.hid (kz.at 3 rfl)
  have g2 := Lib.hid (hz.at 3 rfl)
  have HB := Lib.hid hz.be.plain
  have S1 : Hid ((stc (pc + 1) g (.slice A n c) rd out st en).all (·.oneCell') = true) := Lib.hid (stc_one _ _ _ _ _ _ _ _ _)
  clear kz hz hb2
  go_wp2_with (first
    | (refine wpList_store_rowTo rfl 30 _ _ rfl rfl _ _ rfl rfl 30 _ g1.out (infoS2 rfl) rfl S1.out ?_)
    | fail)
  exact bodyPost_ret (results_row_tmp rfl _ _ _ 30 (stc (pc + 1) g (.slice A n c) rd out st en) _ _ _ rfl rfl g2.out Tryd.underlying30 rfl (infoS2 rfl)) rfl ⟨rfl, HB.out⟩
set_option maxRecDepth 100000 in
set_option maxHeartbeats 4000000 in
theorem do9_st_yes (pc : Int) (g : Nat → Int) (A : Option Addr) (n c : Nat) (rd : Int) (out : ByteArray) (st en : Int) {B : Option Addr} {m k : Nat} {d : Int} (inp : ByteArray) {l : List Int} {a b : Nat} {cc : Int} (w : World) (ha : a < 16) (hb : b < 16) (hcc : 0 ≤ cc ∧ cc ≤ 65535) (hp : -4611686018427387904 ≤ pc ∧ pc ≤ 4611686018427387904) (hbv : 0 ≤ g b ∧ g b < 4294967296) (hav : 0 ≤ g a ∧ g a < 4294967296) (hR : Rd w A n l) (hm : n ≤ 1073741824) (hh : whs l (g b) cc = true) :
    Calls Tryd.prog 23 #[.agg #[.slice B m k, .int .i64 d], .string inp, .agg (stc pc g (.slice A n c) rd out st en), .agg #[.int .i64 17, .int .i64 (a : Int), .int .i64 (b : Int), .int .i64 cc]] w fun e w' => ∃ q cap, w.heap.size ≤ q ∧ e = .returned (.tuple #[.agg (stc (pc + 1) g (.slice (some ⟨q, 0, none⟩) n cap) rd out st en), .int .i64 0]) ∧ Rd w' (some ⟨q, 0, none⟩) n (l.set (wat (g b) cc).toNat (g a)) ∧ n ≤ cap ∧ cap ≤ maxLen ∧ Below w.heap.size w w' := by
  have hk := ((((Kx.nil none w).more (.cells #[.slice B m k, .int .i64 d] 24 (0, 0))).add (w.heap.size + 1) (by simp) (.cells (stc pc g (.slice A n c) rd out st en) 30 (0, 0))).add (w.heap.size + 1 + 1) (by simp) (.cells #[.int .i64 17, .int .i64 (a : Int), .int .i64 (b : Int), .int .i64 cc] 40 (0, 0))).add (w.heap.size + 1 + 1 + 1) (by simp) (.cells #[.int .i64 0, .int .u32 0, .int .u32 0, .int .u32 0, .int .u32 0, .int .u32 0, .int .u32 0, .int .u32 0, .int .u32 0, .int .u32 0, .int .u32 0, .int .u32 0, .int .u32 0, .int .u32 0, .int .u32 0, .int .u32 0, .int .u32 0, .slice none 0 0, .int .i64 0, .string ⟨#[]⟩, .int .i64 0, .int .i64 0] 30 (0, 0))
  obtain ⟨W0, hW0⟩ : ∃ W, (((w.alloc (.cells #[.slice B m k, .int .i64 d] 24 (0, 0))).alloc (.cells (stc pc g (.slice A n c) rd out st en) 30 (0, 0))).alloc (.cells #[.int .i64 17, .int .i64 (a : Int), .int .i64 (b : Int), .int .i64 cc] 40 (0, 0))).alloc (.cells #[.int .i64 0, .int .u32 0, .int .u32 0, .int .u32 0, .int .u32 0, .int .u32 0, .int .u32 0, .int .u32 0, .int .u32 0, .int .u32 0, .int .u32 0, .int .u32 0, .int .u32 0, .int .u32 0, .int .u32 0, .int .u32 0, .int .u32 0, .slice none 0 0, .int .i64 0, .string ⟨#[]⟩, .int .i64 0, .int .i64 0] 30 (0, 0)) = W := ⟨_, rfl⟩
  rw [hW0] at hk
  have y1 := row_cell (hk.at 2 rfl) 1 (v := .int .i64 (a : Int)) rfl
  have y3 := row_cell (hk.at 2 rfl) 3 (v := .int .i64 cc) rfl
  have za := row_cell (hk.at 1 rfl) (1 + a) (stc_get pc g (.slice A n c) rd out st en a ha)
  have zp := row_cell (hk.drew.at 1 rfl) 0 (stc_pc pc g (.slice A n c) rd out st en)
  have fp := row_froz (hk.drew.at 1 rfl) 0
  have a0 : (0 : Int) ≤ (a : Int) := by omega
  have a1 : (a : Int) < 16 := by omega
  have e1 : IntKind.u32.wrap cc = cc := by rw [IntKind.wrap_u32]; omega
  have w1 : IntKind.i64.wrap (pc + 1) = pc + 1 := by rw [IntKind.wrap_i64]; omega
  have k1 := (hk.putc 1 rfl (.inr (by omega)) 0 (.int .i64 (pc + 1)) (set_pc pc g (.slice A n c) rd out st en (pc + 1))).drew
  obtain ⟨W1, hW1⟩ : ∃ W, (W0.setCell ⟨w.heap.size + 1, 0, none⟩ (.int .i64 (pc + 1))).drew = W := ⟨_, rfl⟩
  rw [hW1] at k1
  have x0 := row_cell (k1.at 2 rfl) 0 (v := .int .i64 17) rfl
  have g0 := Lib.hid (k1.at 1 rfl)
  have gi := Lib.hid (k1.at 2 rfl)
  have HK := Lib.hid k1
  have cs := fun W (h : Rd W A n l) => store9_yes (pc + 1) g A n c rd out st en (o := 17) W ha hb hbv hcc hav h hm hh
  have CS := Lib.hid cs
  have HR := Lib.hid (hR.below k1.be.plain)
  clear hk k1 cs
  go_enter Tryd.func23, Tryd.ntmps23
  go_upto_region 1 with fail
  refine wp_region_still_lit (by kernel_rfl) (by kernel_rfl) ?_
  repeat still_step
  refine wpStill_nil ?_
  go_upto_region 3 with fail
  clear y1 y3 za zp fp
  go_upto_region 14 with fail
  go_wp2_with (first
    | (refine wpList_load_row rfl 30 _ rfl _ rfl 30 _ _ _ g0.out Tryd.underlying30 rfl (infoS2 rfl) ?_)
    | (refine wpList_load_row rfl 40 _ rfl _ rfl 40 _ _ _ gi.out Tryd.underlying40 rfl (infoI2 rfl) ?_)
    | fail)
  refine (CS.out _ HR.out).mono ?_
  rintro e w2 ⟨q, cap, hq, rfl, hrd, h1, h2, hb2⟩
  have kz := HK.out.after hb2
  have hz := kz.putRow 3 rfl (.inr (by omega)) (stc (pc + 1) g (.slice (some ⟨q, 0, none⟩) n cap) rd out st en)
  replace g0 := Lib.hid (kz.at 1 rfl)
  have g1 := Lib.hid (kz.at 3 rfl)
  have g2 := Lib.hid (hz.at 3 rfl)
  have HB := Lib.hid hz.be.plain
  have S1 : Hid ((stc (pc + 1) g (.slice (some ⟨q, 0, none⟩) n cap) rd out st en).all (·.oneCell') = true) := Lib.hid (stc_one _ _ _ _ _ _ _ _ _)
  have hqw : w.heap.size ≤ q := Nat.le_trans HK.out.be.size hq
  have hrz := Lib.hid (hrd.setRow (off_some (b := q) (q := w.heap.size + 1 + 1 + 1) (by have := HK.out.lt 3 rfl; omega)) (stc (pc + 1) g (.slice (some ⟨q, 0, none⟩) n cap) rd out st en))
  clear hrd
  clear kz hz hb2
  go_wp2_with (first
    | (refine wpList_store_rowTo rfl 30 _ _ rfl rfl _ _ rfl rfl 30 _ g1.out (infoS2 rfl) rfl S1.out ?_)
    | fail)
  exact bodyPost_ret (results_row_tmp rfl _ _ _ 30 (stc (pc + 1) g (.slice (some ⟨q, 0, none⟩) n cap) rd out st en) _ _ _ rfl rfl g2.out Tryd.underlying30 rfl (infoS2 rfl)) rfl ⟨q, cap, hqw, rfl, hrz.out, h1, h2, HB.out⟩
end Go.Proofs.YtgojpflkhnaedaaDoor
