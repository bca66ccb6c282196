/- The reference of layer 9: Step: ld, ldc. -/
import Derived.Test.YtgojpflkhnaedaaDoorMchG
set_option linter.unusedVariables false
namespace Go.Proofs.YtgojpflkhnaedaaDoor
open Go.RowKit

set_option maxRecDepth 100000 in
set_option maxHeartbeats 4000000 in
theorem step_ld_yes (p : Nat) (g : Nat → Int) (A : Option Addr) (n c : Nat) (rd : Int) (out : ByteArray) (st : Int) {B : Option Addr} {m k : Nat} {code : List Int} {d : Int} (inp : ByteArray) (v : Int) {a b : Nat} {cc : Int} (w : World) (hc : Rd w B m code) (hm : m ≤ 1073741824) (hp : p < m) (hv : code.getD p 0 = v) (hst : -9223372036854775808 ≤ st ∧ st < 4611686018427387904) (hd : dcd v = #[.int .i64 16, .int .i64 (a : Int), .int .i64 (b : Int), .int .i64 cc]) (hde : dce v = 0) (ha : a < 16) (hb : b < 16) (hcc : 0 ≤ cc ∧ cc ≤ 65535) (hbv : 0 ≤ g b ∧ g b < 4294967296) {l : List Int} (hR : Rd w A n l) (hn : n ≤ 1073741824) (hh : whs l (g b) cc = true) :
    Calls Tryd.prog 16 #[.agg #[.slice B m k, .int .i64 d], .string inp, .agg (stc (p : Int) g (.slice A n c) rd out st 0)] w fun e w' => e = .returned (.agg (stc ((p : Int) + 1) (gset g a (wof l (g b) cc)) (.slice A n c) rd out (st + 1) 0)) ∧ Below w.heap.size w w' := by
  have HR := Lib.hid hR
  have hv0 : 0 ≤ v ∧ v < 4294967296 := by rw [← hv]; exact hc.2.2 p
  obtain ⟨bk, off, rfl, hcell⟩ := rd_at9 hc hp
  rw [hv] at hcell
  have hk := (((Kx.nil none w).more (.cells #[.slice (some ⟨bk, off, none⟩) m k, .int .i64 d] 24 (0, 0))).add (w.heap.size + 1) (by simp) (.cells (stc (p : Int) g (.slice A n c) rd out st 0) 30 (0, 0))).add (w.heap.size + 1 + 1) (by simp) (.cells #[.int .i64 0, .int .u32 0, .int .u32 0, .int .u32 0, .int .u32 0, .int .u32 0, .int .u32 0, .int .u32 0, .int .u32 0, .int .u32 0, .int .u32 0, .int .u32 0, .int .u32 0, .int .u32 0, .int .u32 0, .int .u32 0, .int .u32 0, .slice none 0 0, .int .i64 0, .string ⟨#[]⟩, .int .i64 0, .int .i64 0] 30 (0, 0))
  obtain ⟨W0, hW0⟩ : ∃ W, ((w.alloc (.cells #[.slice (some ⟨bk, off, none⟩) m k, .int .i64 d] 24 (0, 0))).alloc (.cells (stc (p : Int) g (.slice A n c) rd out st 0) 30 (0, 0))).alloc (.cells #[.int .i64 0, .int .u32 0, .int .u32 0, .int .u32 0, .int .u32 0, .int .u32 0, .int .u32 0, .int .u32 0, .int .u32 0, .int .u32 0, .int .u32 0, .int .u32 0, .int .u32 0, .int .u32 0, .int .u32 0, .int .u32 0, .int .u32 0, .slice none 0 0, .int .i64 0, .string ⟨#[]⟩, .int .i64 0, .int .i64 0] 30 (0, 0)) = W := ⟨_, rfl⟩
  rw [hW0] at hk
  have ce := row_cell (hk.at 1 rfl) 21 (stc_en _ _ _ _ _ _ _)
  have cp := row_cell (hk.at 1 rfl) 0 (stc_pc _ _ _ _ _ _ _)
  have cm : W0.cell? ⟨w.heap.size, 0, none⟩ = some (.slice (some ⟨bk, off, none⟩) m k) := row_cell (hk.at 0 rfl) 0 rfl
  have cst := row_cell (hk.at 1 rfl) 20 (stc_st _ _ _ _ _ _ _)
  have fst := row_froz (hk.at 1 rfl) 20
  have k1 := hk.putc 1 rfl (.inr (by omega)) 20 (.int .i64 (st + 1)) (set_st _ _ _ _ _ _ _ (st + 1))
  have cp1 := row_cell (k1.at 1 rfl) 0 (stc_pc _ _ _ _ _ _ _)
  have cm1 : (W0.setCell ⟨w.heap.size + 1, 20, none⟩ (.int .i64 (st + 1))).cell? ⟨w.heap.size, 0, none⟩ = some (.slice (some ⟨bk, off, none⟩) m k) := row_cell (k1.at 0 rfl) 0 rfl
  have hb0 : bk < w.heap.size := by
    rcases hc.2.1 with h0 | ⟨b1, o1, e1, hlt, _⟩
    · omega
    · injection e1 with e1
      injection e1 with e1 _ _
      rw [e1]; exact hlt
  have cc1 := (k1.be.plain.cell (p := ⟨bk, off + p, none⟩) hb0).trans hcell
  have p0 : (0 : Int) ≤ (p : Int) := by omega
  have p1 : (p : Int) < (m : Int) := by omega
  have i1 : decide ((p : Int) < 0) = false := decide_eq_false (by omega)
  have i2 : decide ((m : Int) ≤ (p : Int)) = false := decide_eq_false (by omega)
  have w1 : IntKind.i64.wrap (st + 1) = st + 1 := by rw [IntKind.wrap_i64]; omega
  have cd := fun w => decode_ref v w hv0.1 hv0.2
  rw [hd, hde] at cd
  have CD := Lib.hid cd
  have HK1 := Lib.hid k1
  clear cd hk k1 hcell hc hv hv0 hb0
  go_enter Tryd.func16, Tryd.ntmps16
  go_upto_region 6 with fail
  go_wp2_with fail
  refine (CD.out _).mono ?_
  rintro e w2 ⟨rfl, hbl⟩
  have k2 := (HK1.out.after hbl).add w2.heap.size rfl (.cells #[.int .i64 16, .int .i64 (a : Int), .int .i64 (b : Int), .int .i64 cc] 40 (0, 0))
  obtain ⟨w3, hw3⟩ : ∃ W, w2.alloc (.cells #[.int .i64 16, .int .i64 (a : Int), .int .i64 (b : Int), .int .i64 cc] 40 (0, 0)) = W := ⟨_, rfl⟩
  rw [hw3] at k2
  have y0 := row_cell (k2.at 3 rfl) 0 (v := .int .i64 16) rfl
  have y1 := row_cell (k2.at 3 rfl) 1 (v := .int .i64 (a : Int)) rfl
  have y2 := row_cell (k2.at 3 rfl) 2 (v := .int .i64 (b : Int)) rfl
  have y3 := row_cell (k2.at 3 rfl) 3 (v := .int .i64 cc) rfl
  have z0 := row_cell (k2.at 1 rfl) 0 (stc_pc _ _ _ _ _ _ _)
  have za := row_cell (k2.at 1 rfl) (1 + a) (stc_get (p : Int) g (.slice A n c) rd out (st + 1) 0 a ha)
  have a0 : (0 : Int) ≤ (a : Int) := by omega
  have a1 : (a : Int) < 16 := by omega
  have m0 : cc % 4294967296 = cc := by omega
  have wp : IntKind.i64.wrap ((p : Int) + 1) = (p : Int) + 1 := by rw [IntKind.wrap_i64]; omega
  have g0 := Lib.hid (k2.at 1 rfl)
  have HK := Lib.hid k2
  have cs := fun w => set_ref (p : Int) g A n c rd out (st + 1) 0 a (wof l (g b) cc) w ha (by omega)
  have CS := Lib.hid cs
  have zb := row_cell (k2.at 1 rfl) (1 + b) (stc_get (p : Int) g (.slice A n c) rd out (st + 1) 0 b hb)
  have b0 : (0 : Int) ≤ (b : Int) := by omega
  have b1 : (b : Int) < 16 := by omega
  have zm := row_cell (k2.at 1 rfl) 17 (stc_mem (p : Int) g (.slice A n c) rd out (st + 1) 0)
  have cw := word9_ref (cap := c) (g b) cc w3.drew (HR.out.below k2.drew.be.plain) hn hbv hcc
  rw [hh] at cw
  have CW := Lib.hid cw
  clear cw
  clear k2 cs hbl
  go_upto_region 22 with fail
  refine wp_region_still_lit (by kernel_rfl) (by kernel_rfl) ?_
  repeat (first
    | still_call CW.out
    | still_step)
  refine wpStill_nil ?_
  replace HK := Lib.hid HK.out.drew
  go_upto_region 25 with fail
  go_wp2_with (first
    | (refine wpList_load_row rfl 30 _ rfl _ rfl 30 _ _ _ g0.out Tryd.underlying30 rfl (infoS2 rfl) ?_)
    | fail)
  refine (CS.out _).mono ?_
  rintro e w2 ⟨rfl, hb⟩
  have kz := HK.out.after hb
  have hz := kz.putRow 2 rfl (.inr (by omega)) (stc ((p : Int) + 1) (gset g a (wof l (g b) cc)) (.slice A n c) rd out (st + 1) 0)
  have g1 := Lib.hid (kz.at 2 rfl)
  have g2 := Lib.hid (hz.at 2 rfl)
  have HB := Lib.hid hz.be.plain
  have S1 : Hid ((stc ((p : Int) + 1) (gset g a (wof l (g b) cc)) (.slice A n c) rd out (st + 1) 0).all (·.oneCell') = true) := Lib.hid (stc_one _ _ _ _ _ _ _ _ _)
  clear kz hz hb
  go_wp2_with (first
    | (refine wpList_store_rowTo rfl 30 _ _ rfl rfl _ _ rfl rfl 30 _ g1.out (infoS2 rfl) rfl S1.out ?_)
    | fail)
  exact bodyPost_ret (results_cell_row rfl _ _ _ 30 (stc ((p : Int) + 1) (gset g a (wof l (g b) cc)) (.slice A n c) rd out (st + 1) 0) _ _ rfl g2.out Tryd.underlying30 rfl (infoS2 rfl)) rfl ⟨rfl, HB.out⟩
set_option maxRecDepth 100000 in
set_option maxHeartbeats 4000000 in
theorem step_ld_no (p : Nat) (g : Nat → Int) (A : Option Addr) (n c : Nat) (rd : Int) (out : ByteArray) (st : Int) {B : Option Addr} {m k : Nat} {code : List Int} {d : Int} (inp : ByteArray) (v : Int) {a b : Nat} {cc : Int} (w : World) (hc : Rd w B m code) (hm : m ≤ 1073741824) (hp : p < m) (hv : code.getD p 0 = v) (hst : -9223372036854775808 ≤ st ∧ st < 4611686018427387904) (hd : dcd v = #[.int .i64 16, .int .i64 (a : Int), .int .i64 (b : Int), .int .i64 cc]) (hde : dce v = 0) (ha : a < 16) (hb : b < 16) (hcc : 0 ≤ cc ∧ cc ≤ 65535) (hbv : 0 ≤ g b ∧ g b < 4294967296) {l : List Int} (hR : Rd w A n l) (hn : n ≤ 1073741824) (hh : whs l (g b) cc = false) :
    Calls Tryd.prog 16 #[.agg #[.slice B m k, .int .i64 d], .string inp, .agg (stc (p : Int) g (.slice A n c) rd out st 0)] w fun e w' => e = .returned (.agg (stc (p : Int) g (.slice A n c) rd out (st + 1) 8)) ∧ Below w.heap.size w w' := by
  have HR := Lib.hid hR
  have hv0 : 0 ≤ v ∧ v < 4294967296 := by rw [← hv]; exact hc.2.2 p
  obtain ⟨bk, off, rfl, hcell⟩ := rd_at9 hc hp
  rw [hv] at hcell
  have hk := (((Kx.nil none w).more (.cells #[.slice (some ⟨bk, off, none⟩) m k, .int .i64 d] 24 (0, 0))).add (w.heap.size + 1) (by simp) (.cells (stc (p : Int) g (.slice A n c) rd out st 0) 30 (0, 0))).add (w.heap.size + 1 + 1) (by simp) (.cells #[.int .i64 0, .int .u32 0, .int .u32 0, .int .u32 0, .int .u32 0, .int .u32 0, .int .u32 0, .int .u32 0, .int .u32 0, .int .u32 0, .int .u32 0, .int .u32 0, .int .u32 0, .int .u32 0, .int .u32 0, .int .u32 0, .int .u32 0, .slice none 0 0, .int .i64 0, .string ⟨#[]⟩, .int .i64 0, .int .i64 0] 30 (0, 0))
  obtain ⟨W0, hW0⟩ : ∃ W, ((w.alloc (.cells #[.slice (some ⟨bk, off, none⟩) m k, .int .i64 d] 24 (0, 0))).alloc (.cells (stc (p : Int) g (.slice A n c) rd out st 0) 30 (0, 0))).alloc (.cells #[.int .i64 0, .int .u32 0, .int .u32 0, .int .u32 0, .int .u32 0, .int .u32 0, .int .u32 0, .int .u32 0, .int .u32 0, .int .u32 0, .int .u32 0, .int .u32 0, .int .u32 0, .int .u32 0, .int .u32 0, .int .u32 0, .int .u32 0, .slice none 0 0, .int .i64 0, .string ⟨#[]⟩, .int .i64 0, .int .i64 0] 30 (0, 0)) = W := ⟨_, rfl⟩
  rw [hW0] at hk
  have ce := row_cell (hk.at 1 rfl) 21 (stc_en _ _ _ _ _ _ _)
  have cp := row_cell (hk.at 1 rfl) 0 (stc_pc _ _ _ _ _ _ _)
  have cm : W0.cell? ⟨w.heap.size, 0, none⟩ = some (.slice (some ⟨bk, off, none⟩) m k) := row_cell (hk.at 0 rfl) 0 rfl
  have cst := row_cell (hk.at 1 rfl) 20 (stc_st _ _ _ _ _ _ _)
  have fst := row_froz (hk.at 1 rfl) 20
  have k1 := hk.putc 1 rfl (.inr (by omega)) 20 (.int .i64 (st + 1)) (set_st _ _ _ _ _ _ _ (st + 1))
  have cp1 := row_cell (k1.at 1 rfl) 0 (stc_pc _ _ _ _ _ _ _)
  have cm1 : (W0.setCell ⟨w.heap.size + 1, 20, none⟩ (.int .i64 (st + 1))).cell? ⟨w.heap.size, 0, none⟩ = some (.slice (some ⟨bk, off, none⟩) m k) := row_cell (k1.at 0 rfl) 0 rfl
  have hb0 : bk < w.heap.size := by
    rcases hc.2.1 with h0 | ⟨b1, o1, e1, hlt, _⟩
    · omega
    · injection e1 with e1
      injection e1 with e1 _ _
      rw [e1]; exact hlt
  have cc1 := (k1.be.plain.cell (p := ⟨bk, off + p, none⟩) hb0).trans hcell
  have p0 : (0 : Int) ≤ (p : Int) := by omega
  have p1 : (p : Int) < (m : Int) := by omega
  have i1 : decide ((p : Int) < 0) = false := decide_eq_false (by omega)
  have i2 : decide ((m : Int) ≤ (p : Int)) = false := decide_eq_false (by omega)
  have w1 : IntKind.i64.wrap (st + 1) = st + 1 := by rw [IntKind.wrap_i64]; omega
  have cd := fun w => decode_ref v w hv0.1 hv0.2
  rw [hd, hde] at cd
  have CD := Lib.hid cd
  have HK1 := Lib.hid k1
  clear cd hk k1 hcell hc hv hv0 hb0
  go_enter Tryd.func16, Tryd.ntmps16
  go_upto_region 6 with fail
  go_wp2_with fail
  refine (CD.out _).mono ?_
  rintro e w2 ⟨rfl, hbl⟩
  have k2 := (HK1.out.after hbl).add w2.heap.size rfl (.cells #[.int .i64 16, .int .i64 (a : Int), .int .i64 (b : Int), .int .i64 cc] 40 (0, 0))
  obtain ⟨w3, hw3⟩ : ∃ W, w2.alloc (.cells #[.int .i64 16, .int .i64 (a : Int), .int .i64 (b : Int), .int .i64 cc] 40 (0, 0)) = W := ⟨_, rfl⟩
  rw [hw3] at k2
  have y0 := row_cell (k2.at 3 rfl) 0 (v := .int .i64 16) rfl
  have y1 := row_cell (k2.at 3 rfl) 1 (v := .int .i64 (a : Int)) rfl
  have y2 := row_cell (k2.at 3 rfl) 2 (v := .int .i64 (b : Int)) rfl
  have y3 := row_cell (k2.at 3 rfl) 3 (v := .int .i64 cc) rfl
  have z0 := row_cell (k2.at 1 rfl) 0 (stc_pc _ _ _ _ _ _ _)
  have za := row_cell (k2.at 1 rfl) (1 + a) (stc_get (p : Int) g (.slice A n c) rd out (st + 1) 0 a ha)
  have a0 : (0 : Int) ≤ (a : Int) := by omega
  have a1 : (a : Int) < 16 := by omega
  have m0 : cc % 4294967296 = cc := by omega
  have wp : IntKind.i64.wrap ((p : Int) + 1) = (p : Int) + 1 := by rw [IntKind.wrap_i64]; omega
  have g0 := Lib.hid (k2.at 1 rfl)
  have HK := Lib.hid k2
  have cs := fun w => ended_ref (p : Int) g A n c rd out (st + 1) 0 8 w
  have CS := Lib.hid cs
  have zb := row_cell (k2.at 1 rfl) (1 + b) (stc_get (p : Int) g (.slice A n c) rd out (st + 1) 0 b hb)
  have b0 : (0 : Int) ≤ (b : Int) := by omega
  have b1 : (b : Int) < 16 := by omega
  have zm := row_cell (k2.at 1 rfl) 17 (stc_mem (p : Int) g (.slice A n c) rd out (st + 1) 0)
  have cw := word9_ref (cap := c) (g b) cc w3.drew (HR.out.below k2.drew.be.plain) hn hbv hcc
  rw [hh] at cw
  have CW := Lib.hid cw
  clear cw
  clear k2 cs hbl
  go_upto_region 22 with fail
  refine wp_region_still_lit (by kernel_rfl) (by kernel_rfl) ?_
  repeat (first
    | still_call CW.out
    | still_step)
  refine wpStill_nil ?_
  replace HK := Lib.hid HK.out.drew
  go_upto_region 24 with fail
  go_wp2_with (first
    | (refine wpList_load_row rfl 30 _ rfl _ rfl 30 _ _ _ g0.out Tryd.underlying30 rfl (infoS2 rfl) ?_)
    | fail)
  refine (CS.out _).mono ?_
  rintro e w2 ⟨rfl, hb⟩
  have kz := HK.out.after hb
  have hz := kz.putRow 2 rfl (.inr (by omega)) (stc (p : Int) g (.slice A n c) rd out (st + 1) 8)
  have g1 := Lib.hid (kz.at 2 rfl)
  have g2 := Lib.hid (hz.at 2 rfl)
  have HB := Lib.hid hz.be.plain
  have S1 : Hid ((stc (p : Int) g (.slice A n c) rd out (st + 1) 8).all (·.oneCell') = true) := Lib.hid (stc_one _ _ _ _ _ _ _ _ _)
  clear kz hz hb
  go_wp2_with (first
    | (refine wpList_store_rowTo rfl 30 _ _ rfl rfl _ _ rfl rfl 30 _ g1.out (infoS2 rfl) rfl S1.out ?_)
    | fail)
  exact bodyPost_ret (results_cell_row rfl _ _ _ 30 (stc (p : Int) g (.slice A n c) rd out (st + 1) 8) _ _ rfl g2.out Tryd.underlying30 rfl (infoS2 rfl)) rfl ⟨rfl, HB.out⟩
set_option maxRecDepth 100000 in
set_option maxHeartbeats 4000000 in
theorem step_ldc_yes (p : Nat) (g : Nat → Int) (A : Option Addr) (n c : Nat) (rd : Int) (out : ByteArray) (st : Int) {B : Option Addr} {m k : Nat} {code : List Int} {d : Int} (inp : ByteArray) (v : Int) {a b : Nat} {cc : Int} (w : World) (hc : Rd w B m code) (hm : m ≤ 1073741824) (hp : p < m) (hv : code.getD p 0 = v) (hst : -9223372036854775808 ≤ st ∧ st < 4611686018427387904) (hd : dcd v = #[.int .i64 27, .int .i64 (a : Int), .int .i64 (b : Int), .int .i64 cc]) (hde : dce v = 0) (ha : a < 16) (hb : b < 16) (hcc : 0 ≤ cc ∧ cc ≤ 65535) (hbv : 0 ≤ g b ∧ g b < 4294967296) (hh : whs code (g b) cc = true) :
    Calls Tryd.prog 16 #[.agg #[.slice B m k, .int .i64 d], .string inp, .agg (stc (p : Int) g (.slice A n c) rd out st 0)] w fun e w' => e = .returned (.agg (stc ((p : Int) + 1) (gset g a (wof code (g b) cc)) (.slice A n c) rd out (st + 1) 0)) ∧ Below w.heap.size w w' := by
  have HR := Lib.hid hc
  have hv0 : 0 ≤ v ∧ v < 4294967296 := by rw [← hv]; exact hc.2.2 p
  obtain ⟨bk, off, rfl, hcell⟩ := rd_at9 hc hp
  rw [hv] at hcell
  have hk := (((Kx.nil none w).more (.cells #[.slice (some ⟨bk, off, none⟩) m k, .int .i64 d] 24 (0, 0))).add (w.heap.size + 1) (by simp) (.cells (stc (p : Int) g (.slice A n c) rd out st 0) 30 (0, 0))).add (w.heap.size + 1 + 1) (by simp) (.cells #[.int .i64 0, .int .u32 0, .int .u32 0, .int .u32 0, .int .u32 0, .int .u32 0, .int .u32 0, .int .u32 0, .int .u32 0, .int .u32 0, .int .u32 0, .int .u32 0, .int .u32 0, .int .u32 0, .int .u32 0, .int .u32 0, .int .u32 0, .slice none 0 0, .int .i64 0, .string ⟨#[]⟩, .int .i64 0, .int .i64 0] 30 (0, 0))
  obtain ⟨W0, hW0⟩ : ∃ W, ((w.alloc (.cells #[.slice (some ⟨bk, off, none⟩) m k, .int .i64 d] 24 (0, 0))).alloc (.cells (stc (p : Int) g (.slice A n c) rd out st 0) 30 (0, 0))).alloc (.cells #[.int .i64 0, .int .u32 0, .int .u32 0, .int .u32 0, .int .u32 0, .int .u32 0, .int .u32 0, .int .u32 0, .int .u32 0, .int .u32 0, .int .u32 0, .int .u32 0, .int .u32 0, .int .u32 0, .int .u32 0, .int .u32 0, .int .u32 0, .slice none 0 0, .int .i64 0, .string ⟨#[]⟩, .int .i64 0, .int .i64 0] 30 (0, 0)) = W := ⟨_, rfl⟩
  rw [hW0] at hk
  have ce := row_cell (hk.at 1 rfl) 21 (stc_en _ _ _ _ _ _ _)
  have cp := row_cell (hk.at 1 rfl) 0 (stc_pc _ _ _ _ _ _ _)
  have cm : W0.cell? ⟨w.heap.size, 0, none⟩ = some (.slice (some ⟨bk, off, none⟩) m k) := row_cell (hk.at 0 rfl) 0 rfl
  have cst := row_cell (hk.at 1 rfl) 20 (stc_st _ _ _ _ _ _ _)
  have fst := row_froz (hk.at 1 rfl) 20
  have k1 := hk.putc 1 rfl (.inr (by omega)) 20 (.int .i64 (st + 1)) (set_st _ _ _ _ _ _ _ (st + 1))
  have cp1 := row_cell (k1.at 1 rfl) 0 (stc_pc _ _ _ _ _ _ _)
  have cm1 : (W0.setCell ⟨w.heap.size + 1, 20, none⟩ (.int .i64 (st + 1))).cell? ⟨w.heap.size, 0, none⟩ = some (.slice (some ⟨bk, off, none⟩) m k) := row_cell (k1.at 0 rfl) 0 rfl
  have hb0 : bk < w.heap.size := by
    rcases hc.2.1 with h0 | ⟨b1, o1, e1, hlt, _⟩
    · omega
    · injection e1 with e1
      injection e1 with e1 _ _
      rw [e1]; exact hlt
  have cc1 := (k1.be.plain.cell (p := ⟨bk, off + p, none⟩) hb0).trans hcell
  have p0 : (0 : Int) ≤ (p : Int) := by omega
  have p1 : (p : Int) < (m : Int) := by omega
  have i1 : decide ((p : Int) < 0) = false := decide_eq_false (by omega)
  have i2 : decide ((m : Int) ≤ (p : Int)) = false := decide_eq_false (by omega)
  have w1 : IntKind.i64.wrap (st + 1) = st + 1 := by rw [IntKind.wrap_i64]; omega
  have cd := fun w => decode_ref v w hv0.1 hv0.2
  rw [hd, hde] at cd
  have CD := Lib.hid cd
  have HK1 := Lib.hid k1
  clear cd hk k1 hcell hc hv hv0 hb0
  go_enter Tryd.func16, Tryd.ntmps16
  go_upto_region 6 with fail
  go_wp2_with fail
  refine (CD.out _).mono ?_
  rintro e w2 ⟨rfl, hbl⟩
  have k2 := (HK1.out.after hbl).add w2.heap.size rfl (.cells #[.int .i64 27, .int .i64 (a : Int), .int .i64 (b : Int), .int .i64 cc] 40 (0, 0))
  obtain ⟨w3, hw3⟩ : ∃ W, w2.alloc (.cells #[.int .i64 27, .int .i64 (a : Int), .int .i64 (b : Int), .int .i64 cc] 40 (0, 0)) = W := ⟨_, rfl⟩
  rw [hw3] at k2
  have y0 := row_cell (k2.at 3 rfl) 0 (v := .int .i64 27) rfl
  have y1 := row_cell (k2.at 3 rfl) 1 (v := .int .i64 (a : Int)) rfl
  have y2 := row_cell (k2.at 3 rfl) 2 (v := .int .i64 (b : Int)) rfl
  have y3 := row_cell (k2.at 3 rfl) 3 (v := .int .i64 cc) rfl
  have z0 := row_cell (k2.at 1 rfl) 0 (stc_pc _ _ _ _ _ _ _)
  have za := row_cell (k2.at 1 rfl) (1 + a) (stc_get (p : Int) g (.slice A n c) rd out (st + 1) 0 a ha)
  have a0 : (0 : Int) ≤ (a : Int) := by omega
  have a1 : (a : Int) < 16 := by omega
  have m0 : cc % 4294967296 = cc := by omega
  have wp : IntKind.i64.wrap ((p : Int) + 1) = (p : Int) + 1 := by rw [IntKind.wrap_i64]; omega
  have g0 := Lib.hid (k2.at 1 rfl)
  have HK := Lib.hid k2
  have cs := fun w => set_ref (p : Int) g A n c rd out (st + 1) 0 a (wof code (g b) cc) w ha (by omega)
  have CS := Lib.hid cs
  have zb := row_cell (k2.at 1 rfl) (1 + b) (stc_get (p : Int) g (.slice A n c) rd out (st + 1) 0 b hb)
  have b0 : (0 : Int) ≤ (b : Int) := by omega
  have b1 : (b : Int) < 16 := by omega
  have zm : w3.cell? ⟨w.heap.size, 0, none⟩ = some (.slice (some ⟨bk, off, none⟩) m k) := row_cell (k2.at 0 rfl) 0 rfl
  have cw := word9_ref (cap := k) (g b) cc w3.drew (HR.out.below k2.drew.be.plain) hm hbv hcc
  rw [hh] at cw
  have CW := Lib.hid cw
  clear cw
  clear k2 cs hbl
  go_upto_region 27 with fail
  refine wp_region_still_lit (by kernel_rfl) (by kernel_rfl) ?_
  repeat (first
    | still_call CW.out
    | still_step)
  refine wpStill_nil ?_
  replace HK := Lib.hid HK.out.drew
  go_upto_region 30 with fail
  go_wp2_with (first
    | (refine wpList_load_row rfl 30 _ rfl _ rfl 30 _ _ _ g0.out Tryd.underlying30 rfl (infoS2 rfl) ?_)
    | fail)
  refine (CS.out _).mono ?_
  rintro e w2 ⟨rfl, hb⟩
  have kz := HK.out.after hb
  have hz := kz.putRow 2 rfl (.inr (by omega)) (stc ((p : Int) + 1) (gset g a (wof code (g b) cc)) (.slice A n c) rd out (st + 1) 0)
  have g1 := Lib.hid (kz.at 2 rfl)
  have g2 := Lib.hid (hz.at 2 rfl)
  have HB := Lib.hid hz.be.plain
  have S1 : Hid ((stc ((p : Int) + 1) (gset g a (wof code (g b) cc)) (.slice A n c) rd out (st + 1) 0).all (·.oneCell') = true) := Lib.hid (stc_one _ _ _ _ _ _ _ _ _)
  clear kz hz hb
  go_wp2_with (first
    | (refine wpList_store_rowTo rfl 30 _ _ rfl rfl _ _ rfl rfl 30 _ g1.out (infoS2 rfl) rfl S1.out ?_)
    | fail)
  exact bodyPost_ret (results_cell_row rfl _ _ _ 30 (stc ((p : Int) + 1) (gset g a (wof code (g b) cc)) (.slice A n c) rd out (st + 1) 0) _ _ rfl g2.out Tryd.underlying30 rfl (infoS2 rfl)) rfl ⟨rfl, HB.out⟩
set_option maxRecDepth 100000 in
set_option maxHeartbeats 4000000 in
theorem step_ldc_no (p : Nat) (g : Nat → Int) (A : Option Addr) (n c : Nat) (rd : Int) (out : ByteArray) (st : Int) {B : Option Addr} {m k : Nat} {code : List Int} {d : Int} (inp : ByteArray) (v : Int) {a b : Nat} {cc : Int} (w : World) (hc : Rd w B m code) (hm : m ≤ 1073741824) (hp : p < m) (hv : code.getD p 0 = v) (hst : -9223372036854775808 ≤ st ∧ st < 4611686018427387904) (hd : dcd v = #[.int .i64 27, .int .i64 (a : Int), .int .i64 (b : Int), .int .i64 cc]) (hde : dce v = 0) (ha : a < 16) (hb : b < 16) (hcc : 0 ≤ cc ∧ cc ≤ 65535) (hbv : 0 ≤ g b ∧ g b < 4294967296) (hh : whs code (g b) cc = false) :
    Calls Tryd.prog 16 #[.agg #[.slice B m k, .int .i64 d], .string inp, .agg (stc (p : Int) g (.slice A n c) rd out st 0)] w fun e w' => e = .returned (.agg (stc (p : Int) g (.slice A n c) rd out (st + 1) 8)) ∧ Below w.heap.size w w' := by
  have HR := Lib.hid hc
  have hv0 : 0 ≤ v ∧ v < 4294967296 := by rw [← hv]; exact hc.2.2 p
  obtain ⟨bk, off, rfl, hcell⟩ := rd_at9 hc hp
  rw [hv] at hcell
  have hk := (((Kx.nil none w).more (.cells #[.slice (some ⟨bk, off, none⟩) m k, .int .i64 d] 24 (0, 0))).add (w.heap.size + 1) (by simp) (.cells (stc (p : Int) g (.slice A n c) rd out st 0) 30 (0, 0))).add (w.heap.size + 1 + 1) (by simp) (.cells #[.int .i64 0, .int .u32 0, .int .u32 0, .int .u32 0, .int .u32 0, .int .u32 0, .int .u32 0, .int .u32 0, .int .u32 0, .int .u32 0, .int .u32 0, .int .u32 0, .int .u32 0, .int .u32 0, .int .u32 0, .int .u32 0, .int .u32 0, .slice none 0 0, .int .i64 0, .string ⟨#[]⟩, .int .i64 0, .int .i64 0] 30 (0, 0))
  obtain ⟨W0, hW0⟩ : ∃ W, ((w.alloc (.cells #[.slice (some ⟨bk, off, none⟩) m k, .int .i64 d] 24 (0, 0))).alloc (.cells (stc (p : Int) g (.slice A n c) rd out st 0) 30 (0, 0))).alloc (.cells #[.int .i64 0, .int .u32 0, .int .u32 0, .int .u32 0, .int .u32 0, .int .u32 0, .int .u32 0, .int .u32 0, .int .u32 0, .int .u32 0, .int .u32 0, .int .u32 0, .int .u32 0, .int .u32 0, .int .u32 0, .int .u32 0, .int .u32 0, .slice none 0 0, .int .i64 0, .string ⟨#[]⟩, .int .i64 0, .int .i64 0] 30 (0, 0)) = W := ⟨_, rfl⟩
  rw [hW0] at hk
  have ce := row_cell (hk.at 1 rfl) 21 (stc_en _ _ _ _ _ _ _)
  have cp := row_cell (hk.at 1 rfl) 0 (stc_pc _ _ _ _ _ _ _)
  have cm : W0.cell? ⟨w.heap.size, 0, none⟩ = some (.slice (some ⟨bk, off, none⟩) m k) := row_cell (hk.at 0 rfl) 0 rfl
  have cst := row_cell (hk.at 1 rfl) 20 (stc_st _ _ _ _ _ _ _)
  have fst := row_froz (hk.at 1 rfl) 20
  have k1 := hk.putc 1 rfl (.inr (by omega)) 20 (.int .i64 (st + 1)) (set_st _ _ _ _ _ _ _ (st + 1))
  have cp1 := row_cell (k1.at 1 rfl) 0 (stc_pc _ _ _ _ _ _ _)
  have cm1 : (W0.setCell ⟨w.heap.size + 1, 20, none⟩ (.int .i64 (st + 1))).cell? ⟨w.heap.size, 0, none⟩ = some (.slice (some ⟨bk, off, none⟩) m k) := row_cell (k1.at 0 rfl) 0 rfl
  have hb0 : bk < w.heap.size := by
    rcases hc.2.1 with h0 | ⟨b1, o1, e1, hlt, _⟩
    · omega
    · injection e1 with e1
      injection e1 with e1 _ _
      rw [e1]; exact hlt
  have cc1 := (k1.be.plain.cell (p := ⟨bk, off + p, none⟩) hb0).trans hcell
  have p0 : (0 : Int) ≤ (p : Int) := by omega
  have p1 : (p : Int) < (m : Int) := by omega
  have i1 : decide ((p : Int) < 0) = false := decide_eq_false (by omega)
  have i2 : decide ((m : Int) ≤ (p : Int)) = false := decide_eq_false (by omega)
  have w1 : IntKind.i64.wrap (st + 1) = st + 1 := by rw [IntKind.wrap_i64]; omega
  have cd := fun w => decode_ref v w hv0.1 hv0.2
  rw [hd, hde] at cd
  have CD := Lib.hid cd
  have HK1 := Lib.hid k1
  clear cd hk k1 hcell hc hv hv0 hb0
  go_enter Tryd.func16, Tryd.ntmps16
  go_upto_region 6 with fail
  go_wp2_with fail
  refine (CD.out _).mono ?_
  rintro e w2 ⟨rfl, hbl⟩
  have k2 := (HK1.out.after hbl).add w2.heap.size rfl (.cells #[.int .i64 27, .int .i64 (a : Int), .int .i64 (b : Int), .int .i64 cc] 40 (0, 0))
  obtain ⟨w3, hw3⟩ : ∃ W, w2.alloc (.cells #[.int .i64 27, .int .i64 (a : Int), .int .i64 (b : Int), .int .i64 cc] 40 (0, 0)) = W := ⟨_, rfl⟩
  rw [hw3] at k2
  have y0 := row_cell (k2.at 3 rfl) 0 (v := .int .i64 27) rfl
  have y1 := row_cell (k2.at 3 rfl) 1 (v := .int .i64 (a : Int)) rfl
  have y2 := row_cell (k2.at 3 rfl) 2 (v := .int .i64 (b : Int)) rfl
  have y3 := row_cell (k2.at 3 rfl) 3 (v := .int .i64 cc) rfl
  have z0 := row_cell (k2.at 1 rfl) 0 (stc_pc _ _ _ _ _ _ _)
  have za := row_cell (k2.at 1 rfl) (1 + a) (stc_get (p : Int) g (.slice A n c) rd out (st + 1) 0 a ha)
  have a0 : (0 : Int) ≤ (a : Int) := by omega
  have a1 : (a : Int) < 16 := by omega
  have m0 : cc % 4294967296 = cc := by omega
  have wp : IntKind.i64.wrap ((p : Int) + 1) = (p : Int) + 1 := by rw [IntKind.wrap_i64]; omega
  have g0 := Lib.hid (k2.at 1 rfl)
  have HK := Lib.hid k2
  have cs := fun w => ended_ref (p : Int) g A n c rd out (st + 1) 0 8 w
  have CS := Lib.hid cs
  have zb := row_cell (k2.at 1 rfl) (1 + b) (stc_get (p : Int) g (.slice A n c) rd out (st + 1) 0 b hb)
  have b0 : (0 : Int) ≤ (b : Int) := by omega
  have b1 : (b : Int) < 16 := by omega
  have zm : w3.cell? ⟨w.heap.size, 0, none⟩ = some (.slice (some ⟨bk, off, none⟩) m k) := row_cell (k2.at 0 rfl) 0 rfl
  have cw := word9_ref (cap := k) (g b) cc w3.drew (HR.out.below k2.drew.be.plain) hm hbv hcc
  rw [hh] at cw
  have CW := Lib.hid cw
  clear cw
  clear k2 cs hbl
  go_upto_region 27 with fail
  refine wp_region_still_lit (by kernel_rfl) (by kernel_rfl) ?_
  repeat (first
    | still_call CW.out
    | still_step)
  refine wpStill_nil ?_
  replace HK := Lib.hid HK.out.drew
  go_upto_region 29 with fail
  go_wp2_with (first
    | (refine wpList_load_row rfl 30 _ rfl _ rfl 30 _ _ _ g0.out Tryd.underlying30 rfl (infoS2 rfl) ?_)
    | fail)
  refine (CS.out _).mono ?_
  rintro e w2 ⟨rfl, hb⟩
  have kz := HK.out.after hb
  have hz := kz.putRow 2 rfl (.inr (by omega)) (stc (p : Int) g (.slice A n c) rd out (st + 1) 8)
  have g1 := Lib.hid (kz.at 2 rfl)
  have g2 := Lib.hid (hz.at 2 rfl)
  have HB := Lib.hid hz.be.plain
  have S1 : Hid ((stc (p : Int) g (.slice A n c) rd out (st + 1) 8).all (·.oneCell') = true) := Lib.hid (stc_one _ _ _ _ _ _ _ _ _)
  clear kz hz hb
  go_wp2_with (first
    | (refine wpList_store_rowTo rfl 30 _ _ rfl rfl _ _ rfl rfl 30 _ g1.out (infoS2 rfl) rfl S1.out ?_)
    | fail)
  exact bodyPost_ret (results_cell_row rfl _ _ _ 30 (stc (p : Int) g (.slice A n c) rd out (st + 1) 8) _ _ rfl g2.out Tryd.underlying30 rfl (infoS2 rfl)) rfl ⟨rfl, HB.out⟩
end Go.Proofs.YtgojpflkhnaedaaDoor
