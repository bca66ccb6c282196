/- The reference of layer 9: Step, operation by operation: li, jmp, jz, jnz, get, chk, halt. -/
import Derived.Test.YtgojpflkhnaedaaDoorG9d
set_option linter.unusedVariables false
namespace Go.Proofs.YtgojpflkhnaedaaDoor
open Go.RowKit

set_option maxRecDepth 100000 in
set_option maxHeartbeats 4000000 in
theorem step_li (p : Nat) (g : Nat → Int) (A : Option Addr) (n c : Nat) (rd : Int) (out : ByteArray) (st : Int) {B : Option Addr} {m k : Nat} {code : List Int} {d : Int} (inp : ByteArray) (v : Int) {a b : Nat} {cc : Int} (w : World) (hc : Rd w B m code) (hm : m ≤ 1073741824) (hp : p < m) (hv : code.getD p 0 = v) (hst : -9223372036854775808 ≤ st ∧ st < 4611686018427387904) (hd : dcd v = #[.int .i64 1, .int .i64 (a : Int), .int .i64 (b : Int), .int .i64 cc]) (hde : dce v = 0) (ha : a < 16) (hb : b < 16) (hcc : 0 ≤ cc ∧ cc ≤ 65535)  :
    Calls Tryd.prog 16 #[.agg #[.slice B m k, .int .i64 d], .string inp, .agg (stc (p : Int) g (.slice A n c) rd out st 0)] w fun e w' => e = .returned (.agg (stc ((p : Int) + 1) (gset g a cc) (.slice A n c) rd out (st + 1) 0)) ∧ Below w.heap.size w w' := by
  have hv0 : 0 ≤ v ∧ v < 4294967296 := by rw [← hv]; exact hc.2.2 p
  obtain ⟨bk, off, rfl, hcell⟩ := rd_at9 hc hp
  rw [hv] at hcell
  have hk := (((Kx.nil none w).more (.cells #[.slice (some ⟨bk, off, none⟩) m k, .int .i64 d] 24 (0, 0))).add (w.heap.size + 1) (by simp) (.cells (stc (p : Int) g (.slice A n c) rd out st 0) 30 (0, 0))).add (w.heap.size + 1 + 1) (by simp) (.cells #[.int .i64 0, .int .u32 0, .int .u32 0, .int .u32 0, .int .u32 0, .int .u32 0, .int .u32 0, .int .u32 0, .int .u32 0, .int .u32 0, .int .u32 0, .int .u32 0, .int .u32 0, .int .u32 0, .int .u32 0, .int .u32 0, .int .u32 0, .slice none 0 0, .int .i64 0, .string ⟨#[]⟩, .int .i64 0, .int .i64 0] 30 (0, 0))
  obtain ⟨W0, hW0⟩ : ∃ W, ((w.alloc (.cells #[.slice (some ⟨bk, off, none⟩) m k, .int .i64 d] 24 (0, 0))).alloc (.cells (stc (p : Int) g (.slice A n c) rd out st 0) 30 (0, 0))).alloc (.cells #[.int .i64 0, .int .u32 0, .int .u32 0, .int .u32 0, .int .u32 0, .int .u32 0, .int .u32 0, .int .u32 0, .int .u32 0, .int .u32 0, .int .u32 0, .int .u32 0, .int .u32 0, .int .u32 0, .int .u32 0, .int .u32 0, .int .u32 0, .slice none 0 0, .int .i64 0, .string ⟨#[]⟩, .int .i64 0, .int .i64 0] 30 (0, 0)) = W := ⟨_, rfl⟩
  rw [hW0] at hk
  have ce := row_cell (hk.at 1 rfl) 21 (stc_en _ _ _ _ _ _ _)
  have cp := row_cell (hk.at 1 rfl) 0 (stc_pc _ _ _ _ _ _ _)
  have cm : W0.cell? ⟨w.heap.size, 0, none⟩ = some (.slice (some ⟨bk, off, none⟩) m k) := row_cell (hk.at 0 rfl) 0 rfl
  have cst := row_cell (hk.at 1 rfl) 20 (stc_st _ _ _ _ _ _ _)
  have fst := row_froz (hk.at 1 rfl) 20
  have k1 := hk.putc 1 rfl (.inr (by omega)) 20 (.int .i64 (st + 1)) (set_st _ _ _ _ _ _ _ (st + 1))
  have cp1 := row_cell (k1.at 1 rfl) 0 (stc_pc _ _ _ _ _ _ _)
  have cm1 : (W0.setCell ⟨w.heap.size + 1, 20, none⟩ (.int .i64 (st + 1))).cell? ⟨w.heap.size, 0, none⟩ = some (.slice (some ⟨bk, off, none⟩) m k) := row_cell (k1.at 0 rfl) 0 rfl
  have hb0 : bk < w.heap.size := by
    rcases hc.2.1 with h0 | ⟨b1, o1, e1, hlt, _⟩
    · omega
    · injection e1 with e1
      injection e1 with e1 _ _
      rw [e1]; exact hlt
  have cc1 := (k1.be.plain.cell (p := ⟨bk, off + p, none⟩) hb0).trans hcell
  have p0 : (0 : Int) ≤ (p : Int) := by omega
  have p1 : (p : Int) < (m : Int) := by omega
  have i1 : decide ((p : Int) < 0) = false := decide_eq_false (by omega)
  have i2 : decide ((m : Int) ≤ (p : Int)) = false := decide_eq_false (by omega)
  have w1 : IntKind.i64.wrap (st + 1) = st + 1 := by rw [IntKind.wrap_i64]; omega
  have cd := fun w => decode_ref v w hv0.1 hv0.2
  rw [hd, hde] at cd
  have CD := Lib.hid cd
  have HK1 := Lib.hid k1
  clear cd hk k1 hcell hc hv hv0 hb0
  go_enter Tryd.func16, Tryd.ntmps16
  go_upto_region 6 with fail
  go_wp2_with fail
  refine (CD.out _).mono ?_
  rintro e w2 ⟨rfl, hbl⟩
  have k2 := (HK1.out.after hbl).add w2.heap.size rfl (.cells #[.int .i64 1, .int .i64 (a : Int), .int .i64 (b : Int), .int .i64 cc] 40 (0, 0))
  obtain ⟨w3, hw3⟩ : ∃ W, w2.alloc (.cells #[.int .i64 1, .int .i64 (a : Int), .int .i64 (b : Int), .int .i64 cc] 40 (0, 0)) = W := ⟨_, rfl⟩
  rw [hw3] at k2
  have y0 := row_cell (k2.at 3 rfl) 0 (v := .int .i64 1) rfl
  have y1 := row_cell (k2.at 3 rfl) 1 (v := .int .i64 (a : Int)) rfl
  have y2 := row_cell (k2.at 3 rfl) 2 (v := .int .i64 (b : Int)) rfl
  have y3 := row_cell (k2.at 3 rfl) 3 (v := .int .i64 cc) rfl
  have z0 := row_cell (k2.at 1 rfl) 0 (stc_pc _ _ _ _ _ _ _)
  have za := row_cell (k2.at 1 rfl) (1 + a) (stc_get (p : Int) g (.slice A n c) rd out (st + 1) 0 a ha)
  have a0 : (0 : Int) ≤ (a : Int) := by omega
  have a1 : (a : Int) < 16 := by omega
  have m0 : cc % 4294967296 = cc := by omega
  have wp : IntKind.i64.wrap ((p : Int) + 1) = (p : Int) + 1 := by rw [IntKind.wrap_i64]; omega
  have g0 := Lib.hid (k2.at 1 rfl)
  have HK := Lib.hid k2
  have cs := fun w => set_ref (p : Int) g A n c rd out (st + 1) 0 a cc w ha (by omega)
  have CS := Lib.hid cs
  clear k2 cs hbl
  go_upto_region 16 with fail
  go_wp2_with (first
    | (refine wpList_load_row rfl 30 _ rfl _ rfl 30 _ _ _ g0.out Tryd.underlying30 rfl (infoS2 rfl) ?_)
    | fail)
  refine (CS.out _).mono ?_
  rintro e w2 ⟨rfl, hb⟩
  have kz := HK.out.after hb
  have hz := kz.putRow 2 rfl (.inr (by omega)) (stc ((p : Int) + 1) (gset g a cc) (.slice A n c) rd out (st + 1) 0)
  have g1 := Lib.hid (kz.at 2 rfl)
  have g2 := Lib.hid (hz.at 2 rfl)
  have HB := Lib.hid hz.be.plain
  have S1 : Hid ((stc ((p : Int) + 1) (gset g a cc) (.slice A n c) rd out (st + 1) 0).all (·.oneCell') = true) := Lib.hid (stc_one _ _ _ _ _ _ _ _ _)
  clear kz hz hb
  go_wp2_with (first
    | (refine wpList_store_rowTo rfl 30 _ _ rfl rfl _ _ rfl rfl 30 _ g1.out (infoS2 rfl) rfl S1.out ?_)
    | fail)
  exact bodyPost_ret (results_cell_row rfl _ _ _ 30 (stc ((p : Int) + 1) (gset g a cc) (.slice A n c) rd out (st + 1) 0) _ _ rfl g2.out Tryd.underlying30 rfl (infoS2 rfl)) rfl ⟨rfl, HB.out⟩
set_option maxRecDepth 100000 in
set_option maxHeartbeats 4000000 in
theorem step_jmp (p : Nat) (g : Nat → Int) (A : Option Addr) (n c : Nat) (rd : Int) (out : ByteArray) (st : Int) {B : Option Addr} {m k : Nat} {code : List Int} {d : Int} (inp : ByteArray) (v : Int) {a b : Nat} {cc : Int} (w : World) (hc : Rd w B m code) (hm : m ≤ 1073741824) (hp : p < m) (hv : code.getD p 0 = v) (hst : -9223372036854775808 ≤ st ∧ st < 4611686018427387904) (hd : dcd v = #[.int .i64 18, .int .i64 (a : Int), .int .i64 (b : Int), .int .i64 cc]) (hde : dce v = 0) (ha : a < 16) (hb : b < 16) (hcc : 0 ≤ cc ∧ cc ≤ 65535)  :
    Calls Tryd.prog 16 #[.agg #[.slice B m k, .int .i64 d], .string inp, .agg (stc (p : Int) g (.slice A n c) rd out st 0)] w fun e w' => e = .returned (.agg (stc cc g (.slice A n c) rd out (st + 1) 0)) ∧ Below w.heap.size w w' := by
  have hv0 : 0 ≤ v ∧ v < 4294967296 := by rw [← hv]; exact hc.2.2 p
  obtain ⟨bk, off, rfl, hcell⟩ := rd_at9 hc hp
  rw [hv] at hcell
  have hk := (((Kx.nil none w).more (.cells #[.slice (some ⟨bk, off, none⟩) m k, .int .i64 d] 24 (0, 0))).add (w.heap.size + 1) (by simp) (.cells (stc (p : Int) g (.slice A n c) rd out st 0) 30 (0, 0))).add (w.heap.size + 1 + 1) (by simp) (.cells #[.int .i64 0, .int .u32 0, .int .u32 0, .int .u32 0, .int .u32 0, .int .u32 0, .int .u32 0, .int .u32 0, .int .u32 0, .int .u32 0, .int .u32 0, .int .u32 0, .int .u32 0, .int .u32 0, .int .u32 0, .int .u32 0, .int .u32 0, .slice none 0 0, .int .i64 0, .string ⟨#[]⟩, .int .i64 0, .int .i64 0] 30 (0, 0))
  obtain ⟨W0, hW0⟩ : ∃ W, ((w.alloc (.cells #[.slice (some ⟨bk, off, none⟩) m k, .int .i64 d] 24 (0, 0))).alloc (.cells (stc (p : Int) g (.slice A n c) rd out st 0) 30 (0, 0))).alloc (.cells #[.int .i64 0, .int .u32 0, .int .u32 0, .int .u32 0, .int .u32 0, .int .u32 0, .int .u32 0, .int .u32 0, .int .u32 0, .int .u32 0, .int .u32 0, .int .u32 0, .int .u32 0, .int .u32 0, .int .u32 0, .int .u32 0, .int .u32 0, .slice none 0 0, .int .i64 0, .string ⟨#[]⟩, .int .i64 0, .int .i64 0] 30 (0, 0)) = W := ⟨_, rfl⟩
  rw [hW0] at hk
  have ce := row_cell (hk.at 1 rfl) 21 (stc_en _ _ _ _ _ _ _)
  have cp := row_cell (hk.at 1 rfl) 0 (stc_pc _ _ _ _ _ _ _)
  have cm : W0.cell? ⟨w.heap.size, 0, none⟩ = some (.slice (some ⟨bk, off, none⟩) m k) := row_cell (hk.at 0 rfl) 0 rfl
  have cst := row_cell (hk.at 1 rfl) 20 (stc_st _ _ _ _ _ _ _)
  have fst := row_froz (hk.at 1 rfl) 20
  have k1 := hk.putc 1 rfl (.inr (by omega)) 20 (.int .i64 (st + 1)) (set_st _ _ _ _ _ _ _ (st + 1))
  have cp1 := row_cell (k1.at 1 rfl) 0 (stc_pc _ _ _ _ _ _ _)
  have cm1 : (W0.setCell ⟨w.heap.size + 1, 20, none⟩ (.int .i64 (st + 1))).cell? ⟨w.heap.size, 0, none⟩ = some (.slice (some ⟨bk, off, none⟩) m k) := row_cell (k1.at 0 rfl) 0 rfl
  have hb0 : bk < w.heap.size := by
    rcases hc.2.1 with h0 | ⟨b1, o1, e1, hlt, _⟩
    · omega
    · injection e1 with e1
      injection e1 with e1 _ _
      rw [e1]; exact hlt
  have cc1 := (k1.be.plain.cell (p := ⟨bk, off + p, none⟩) hb0).trans hcell
  have p0 : (0 : Int) ≤ (p : Int) := by omega
  have p1 : (p : Int) < (m : Int) := by omega
  have i1 : decide ((p : Int) < 0) = false := decide_eq_false (by omega)
  have i2 : decide ((m : Int) ≤ (p : Int)) = false := decide_eq_false (by omega)
  have w1 : IntKind.i64.wrap (st + 1) = st + 1 := by rw [IntKind.wrap_i64]; omega
  have cd := fun w => decode_ref v w hv0.1 hv0.2
  rw [hd, hde] at cd
  have CD := Lib.hid cd
  have HK1 := Lib.hid k1
  clear cd hk k1 hcell hc hv hv0 hb0
  go_enter Tryd.func16, Tryd.ntmps16
  go_upto_region 6 with fail
  go_wp2_with fail
  refine (CD.out _).mono ?_
  rintro e w2 ⟨rfl, hbl⟩
  have k2 := (HK1.out.after hbl).add w2.heap.size rfl (.cells #[.int .i64 18, .int .i64 (a : Int), .int .i64 (b : Int), .int .i64 cc] 40 (0, 0))
  obtain ⟨w3, hw3⟩ : ∃ W, w2.alloc (.cells #[.int .i64 18, .int .i64 (a : Int), .int .i64 (b : Int), .int .i64 cc] 40 (0, 0)) = W := ⟨_, rfl⟩
  rw [hw3] at k2
  have y0 := row_cell (k2.at 3 rfl) 0 (v := .int .i64 18) rfl
  have y1 := row_cell (k2.at 3 rfl) 1 (v := .int .i64 (a : Int)) rfl
  have y2 := row_cell (k2.at 3 rfl) 2 (v := .int .i64 (b : Int)) rfl
  have y3 := row_cell (k2.at 3 rfl) 3 (v := .int .i64 cc) rfl
  have z0 := row_cell (k2.at 1 rfl) 0 (stc_pc _ _ _ _ _ _ _)
  have za := row_cell (k2.at 1 rfl) (1 + a) (stc_get (p : Int) g (.slice A n c) rd out (st + 1) 0 a ha)
  have a0 : (0 : Int) ≤ (a : Int) := by omega
  have a1 : (a : Int) < 16 := by omega
  have m0 : cc % 4294967296 = cc := by omega
  have wp : IntKind.i64.wrap ((p : Int) + 1) = (p : Int) + 1 := by rw [IntKind.wrap_i64]; omega
  have g0 := Lib.hid (k2.at 1 rfl)
  have HK := Lib.hid k2
  have cs := fun w => jump_ref (p : Int) g A n c rd out (st + 1) 0 cc w
  have CS := Lib.hid cs
  clear k2 cs hbl
  go_upto_region 34 with fail
  go_wp2_with (first
    | (refine wpList_load_row rfl 30 _ rfl _ rfl 30 _ _ _ g0.out Tryd.underlying30 rfl (infoS2 rfl) ?_)
    | fail)
  refine (CS.out _).mono ?_
  rintro e w2 ⟨rfl, hb⟩
  have kz := HK.out.after hb
  have hz := kz.putRow 2 rfl (.inr (by omega)) (stc cc g (.slice A n c) rd out (st + 1) 0)
  have g1 := Lib.hid (kz.at 2 rfl)
  have g2 := Lib.hid (hz.at 2 rfl)
  have HB := Lib.hid hz.be.plain
  have S1 : Hid ((stc cc g (.slice A n c) rd out (st + 1) 0).all (·.oneCell') = true) := Lib.hid (stc_one _ _ _ _ _ _ _ _ _)
  clear kz hz hb
  go_wp2_with (first
    | (refine wpList_store_rowTo rfl 30 _ _ rfl rfl _ _ rfl rfl 30 _ g1.out (infoS2 rfl) rfl S1.out ?_)
    | fail)
  exact bodyPost_ret (results_cell_row rfl _ _ _ 30 (stc cc g (.slice A n c) rd out (st + 1) 0) _ _ rfl g2.out Tryd.underlying30 rfl (infoS2 rfl)) rfl ⟨rfl, HB.out⟩
set_option maxRecDepth 100000 in
set_option maxHeartbeats 4000000 in
theorem step_halt (p : Nat) (g : Nat → Int) (A : Option Addr) (n c : Nat) (rd : Int) (out : ByteArray) (st : Int) {B : Option Addr} {m k : Nat} {code : List Int} {d : Int} (inp : ByteArray) (v : Int) {a b : Nat} {cc : Int} (w : World) (hc : Rd w B m code) (hm : m ≤ 1073741824) (hp : p < m) (hv : code.getD p 0 = v) (hst : -9223372036854775808 ≤ st ∧ st < 4611686018427387904) (hd : dcd v = #[.int .i64 26, .int .i64 (a : Int), .int .i64 (b : Int), .int .i64 cc]) (hde : dce v = 0) (ha : a < 16) (hb : b < 16) (hcc : 0 ≤ cc ∧ cc ≤ 65535)  :
    Calls Tryd.prog 16 #[.agg #[.slice B m k, .int .i64 d], .string inp, .agg (stc (p : Int) g (.slice A n c) rd out st 0)] w fun e w' => e = .returned (.agg (stc (p : Int) g (.slice A n c) rd out (st + 1) 1)) ∧ Below w.heap.size w w' := by
  have hv0 : 0 ≤ v ∧ v < 4294967296 := by rw [← hv]; exact hc.2.2 p
  obtain ⟨bk, off, rfl, hcell⟩ := rd_at9 hc hp
  rw [hv] at hcell
  have hk := (((Kx.nil none w).more (.cells #[.slice (some ⟨bk, off, none⟩) m k, .int .i64 d] 24 (0, 0))).add (w.heap.size + 1) (by simp) (.cells (stc (p : Int) g (.slice A n c) rd out st 0) 30 (0, 0))).add (w.heap.size + 1 + 1) (by simp) (.cells #[.int .i64 0, .int .u32 0, .int .u32 0, .int .u32 0, .int .u32 0, .int .u32 0, .int .u32 0, .int .u32 0, .int .u32 0, .int .u32 0, .int .u32 0, .int .u32 0, .int .u32 0, .int .u32 0, .int .u32 0, .int .u32 0, .int .u32 0, .slice none 0 0, .int .i64 0, .string ⟨#[]⟩, .int .i64 0, .int .i64 0] 30 (0, 0))
  obtain ⟨W0, hW0⟩ : ∃ W, ((w.alloc (.cells #[.slice (some ⟨bk, off, none⟩) m k, .int .i64 d] 24 (0, 0))).alloc (.cells (stc (p : Int) g (.slice A n c) rd out st 0) 30 (0, 0))).alloc (.cells #[.int .i64 0, .int .u32 0, .int .u32 0, .int .u32 0, .int .u32 0, .int .u32 0, .int .u32 0, .int .u32 0, .int .u32 0, .int .u32 0, .int .u32 0, .int .u32 0, .int .u32 0, .int .u32 0, .int .u32 0, .int .u32 0, .int .u32 0, .slice none 0 0, .int .i64 0, .string ⟨#[]⟩, .int .i64 0, .int .i64 0] 30 (0, 0)) = W := ⟨_, rfl⟩
  rw [hW0] at hk
  have ce := row_cell (hk.at 1 rfl) 21 (stc_en _ _ _ _ _ _ _)
  have cp := row_cell (hk.at 1 rfl) 0 (stc_pc _ _ _ _ _ _ _)
  have cm : W0.cell? ⟨w.heap.size, 0, none⟩ = some (.slice (some ⟨bk, off, none⟩) m k) := row_cell (hk.at 0 rfl) 0 rfl
  have cst := row_cell (hk.at 1 rfl) 20 (stc_st _ _ _ _ _ _ _)
  have fst := row_froz (hk.at 1 rfl) 20
  have k1 := hk.putc 1 rfl (.inr (by omega)) 20 (.int .i64 (st + 1)) (set_st _ _ _ _ _ _ _ (st + 1))
  have cp1 := row_cell (k1.at 1 rfl) 0 (stc_pc _ _ _ _ _ _ _)
  have cm1 : (W0.setCell ⟨w.heap.size + 1, 20, none⟩ (.int .i64 (st + 1))).cell? ⟨w.heap.size, 0, none⟩ = some (.slice (some ⟨bk, off, none⟩) m k) := row_cell (k1.at 0 rfl) 0 rfl
  have hb0 : bk < w.heap.size := by
    rcases hc.2.1 with h0 | ⟨b1, o1, e1, hlt, _⟩
    · omega
    · injection e1 with e1
      injection e1 with e1 _ _
      rw [e1]; exact hlt
  have cc1 := (k1.be.plain.cell (p := ⟨bk, off + p, none⟩) hb0).trans hcell
  have p0 : (0 : Int) ≤ (p : Int) := by omega
  have p1 : (p : Int) < (m : Int) := by omega
  have i1 : decide ((p : Int) < 0) = false := decide_eq_false (by omega)
  have i2 : decide ((m : Int) ≤ (p : Int)) = false := decide_eq_false (by omega)
  have w1 : IntKind.i64.wrap (st + 1) = st + 1 := by rw [IntKind.wrap_i64]; omega
  have cd := fun w => decode_ref v w hv0.1 hv0.2
  rw [hd, hde] at cd
  have CD := Lib.hid cd
  have HK1 := Lib.hid k1
  clear cd hk k1 hcell hc hv hv0 hb0
  go_enter Tryd.func16, Tryd.ntmps16
  go_upto_region 6 with fail
  go_wp2_with fail
  refine (CD.out _).mono ?_
  rintro e w2 ⟨rfl, hbl⟩
  have k2 := (HK1.out.after hbl).add w2.heap.size rfl (.cells #[.int .i64 26, .int .i64 (a : Int), .int .i64 (b : Int), .int .i64 cc] 40 (0, 0))
  obtain ⟨w3, hw3⟩ : ∃ W, w2.alloc (.cells #[.int .i64 26, .int .i64 (a : Int), .int .i64 (b : Int), .int .i64 cc] 40 (0, 0)) = W := ⟨_, rfl⟩
  rw [hw3] at k2
  have y0 := row_cell (k2.at 3 rfl) 0 (v := .int .i64 26) rfl
  have y1 := row_cell (k2.at 3 rfl) 1 (v := .int .i64 (a : Int)) rfl
  have y2 := row_cell (k2.at 3 rfl) 2 (v := .int .i64 (b : Int)) rfl
  have y3 := row_cell (k2.at 3 rfl) 3 (v := .int .i64 cc) rfl
  have z0 := row_cell (k2.at 1 rfl) 0 (stc_pc _ _ _ _ _ _ _)
  have za := row_cell (k2.at 1 rfl) (1 + a) (stc_get (p : Int) g (.slice A n c) rd out (st + 1) 0 a ha)
  have a0 : (0 : Int) ≤ (a : Int) := by omega
  have a1 : (a : Int) < 16 := by omega
  have m0 : cc % 4294967296 = cc := by omega
  have wp : IntKind.i64.wrap ((p : Int) + 1) = (p : Int) + 1 := by rw [IntKind.wrap_i64]; omega
  have g0 := Lib.hid (k2.at 1 rfl)
  have HK := Lib.hid k2
  have cs := fun w => ended_ref (p : Int) g A n c rd out (st + 1) 0 1 w
  have CS := Lib.hid cs
  clear k2 cs hbl
  go_upto_region 55 with fail
  go_wp2_with (first
    | (refine wpList_load_row rfl 30 _ rfl _ rfl 30 _ _ _ g0.out Tryd.underlying30 rfl (infoS2 rfl) ?_)
    | fail)
  refine (CS.out _).mono ?_
  rintro e w2 ⟨rfl, hb⟩
  have kz := HK.out.after hb
  have hz := kz.putRow 2 rfl (.inr (by omega)) (stc (p : Int) g (.slice A n c) rd out (st + 1) 1)
  have g1 := Lib.hid (kz.at 2 rfl)
  have g2 := Lib.hid (hz.at 2 rfl)
  have HB := Lib.hid hz.be.plain
  have S1 : Hid ((stc (p : Int) g (.slice A n c) rd out (st + 1) 1).all (·.oneCell') = true) := Lib.hid (stc_one _ _ _ _ _ _ _ _ _)
  clear kz hz hb
  go_wp2_with (first
    | (refine wpList_store_rowTo rfl 30 _ _ rfl rfl _ _ rfl rfl 30 _ g1.out (infoS2 rfl) rfl S1.out ?_)
    | fail)
  exact bodyPost_ret (results_cell_row rfl _ _ _ 30 (stc (p : Int) g (.slice A n c) rd out (st + 1) 1) _ _ rfl g2.out Tryd.underlying30 rfl (infoS2 rfl)) rfl ⟨rfl, HB.out⟩
set_option maxRecDepth 100000 in
set_option maxHeartbeats 4000000 in
theorem step_jz_yes (p : Nat) (g : Nat → Int) (A : Option Addr) (n c : Nat) (rd : Int) (out : ByteArray) (st : Int) {B : Option Addr} {m k : Nat} {code : List Int} {d : Int} (inp : ByteArray) (v : Int) {a b : Nat} {cc : Int} (w : World) (hc : Rd w B m code) (hm : m ≤ 1073741824) (hp : p < m) (hv : code.getD p 0 = v) (hst : -9223372036854775808 ≤ st ∧ st < 4611686018427387904) (hd : dcd v = #[.int .i64 19, .int .i64 (a : Int), .int .i64 (b : Int), .int .i64 cc]) (hde : dce v = 0) (ha : a < 16) (hb : b < 16) (hcc : 0 ≤ cc ∧ cc ≤ 65535) (hg : g a = 0) :
    Calls Tryd.prog 16 #[.agg #[.slice B m k, .int .i64 d], .string inp, .agg (stc (p : Int) g (.slice A n c) rd out st 0)] w fun e w' => e = .returned (.agg (stc cc g (.slice A n c) rd out (st + 1) 0)) ∧ Below w.heap.size w w' := by
  have hv0 : 0 ≤ v ∧ v < 4294967296 := by rw [← hv]; exact hc.2.2 p
  obtain ⟨bk, off, rfl, hcell⟩ := rd_at9 hc hp
  rw [hv] at hcell
  have hk := (((Kx.nil none w).more (.cells #[.slice (some ⟨bk, off, none⟩) m k, .int .i64 d] 24 (0, 0))).add (w.heap.size + 1) (by simp) (.cells (stc (p : Int) g (.slice A n c) rd out st 0) 30 (0, 0))).add (w.heap.size + 1 + 1) (by simp) (.cells #[.int .i64 0, .int .u32 0, .int .u32 0, .int .u32 0, .int .u32 0, .int .u32 0, .int .u32 0, .int .u32 0, .int .u32 0, .int .u32 0, .int .u32 0, .int .u32 0, .int .u32 0, .int .u32 0, .int .u32 0, .int .u32 0, .int .u32 0, .slice none 0 0, .int .i64 0, .string ⟨#[]⟩, .int .i64 0, .int .i64 0] 30 (0, 0))
  obtain ⟨W0, hW0⟩ : ∃ W, ((w.alloc (.cells #[.slice (some ⟨bk, off, none⟩) m k, .int .i64 d] 24 (0, 0))).alloc (.cells (stc (p : Int) g (.slice A n c) rd out st 0) 30 (0, 0))).alloc (.cells #[.int .i64 0, .int .u32 0, .int .u32 0, .int .u32 0, .int .u32 0, .int .u32 0, .int .u32 0, .int .u32 0, .int .u32 0, .int .u32 0, .int .u32 0, .int .u32 0, .int .u32 0, .int .u32 0, .int .u32 0, .int .u32 0, .int .u32 0, .slice none 0 0, .int .i64 0, .string ⟨#[]⟩, .int .i64 0, .int .i64 0] 30 (0, 0)) = W := ⟨_, rfl⟩
  rw [hW0] at hk
  have ce := row_cell (hk.at 1 rfl) 21 (stc_en _ _ _ _ _ _ _)
  have cp := row_cell (hk.at 1 rfl) 0 (stc_pc _ _ _ _ _ _ _)
  have cm : W0.cell? ⟨w.heap.size, 0, none⟩ = some (.slice (some ⟨bk, off, none⟩) m k) := row_cell (hk.at 0 rfl) 0 rfl
  have cst := row_cell (hk.at 1 rfl) 20 (stc_st _ _ _ _ _ _ _)
  have fst := row_froz (hk.at 1 rfl) 20
  have k1 := hk.putc 1 rfl (.inr (by omega)) 20 (.int .i64 (st + 1)) (set_st _ _ _ _ _ _ _ (st + 1))
  have cp1 := row_cell (k1.at 1 rfl) 0 (stc_pc _ _ _ _ _ _ _)
  have cm1 : (W0.setCell ⟨w.heap.size + 1, 20, none⟩ (.int .i64 (st + 1))).cell? ⟨w.heap.size, 0, none⟩ = some (.slice (some ⟨bk, off, none⟩) m k) := row_cell (k1.at 0 rfl) 0 rfl
  have hb0 : bk < w.heap.size := by
    rcases hc.2.1 with h0 | ⟨b1, o1, e1, hlt, _⟩
    · omega
    · injection e1 with e1
      injection e1 with e1 _ _
      rw [e1]; exact hlt
  have cc1 := (k1.be.plain.cell (p := ⟨bk, off + p, none⟩) hb0).trans hcell
  have p0 : (0 : Int) ≤ (p : Int) := by omega
  have p1 : (p : Int) < (m : Int) := by omega
  have i1 : decide ((p : Int) < 0) = false := decide_eq_false (by omega)
  have i2 : decide ((m : Int) ≤ (p : Int)) = false := decide_eq_false (by omega)
  have w1 : IntKind.i64.wrap (st + 1) = st + 1 := by rw [IntKind.wrap_i64]; omega
  have cd := fun w => decode_ref v w hv0.1 hv0.2
  rw [hd, hde] at cd
  have CD := Lib.hid cd
  have HK1 := Lib.hid k1
  clear cd hk k1 hcell hc hv hv0 hb0
  go_enter Tryd.func16, Tryd.ntmps16
  go_upto_region 6 with fail
  go_wp2_with fail
  refine (CD.out _).mono ?_
  rintro e w2 ⟨rfl, hbl⟩
  have k2 := (HK1.out.after hbl).add w2.heap.size rfl (.cells #[.int .i64 19, .int .i64 (a : Int), .int .i64 (b : Int), .int .i64 cc] 40 (0, 0))
  obtain ⟨w3, hw3⟩ : ∃ W, w2.alloc (.cells #[.int .i64 19, .int .i64 (a : Int), .int .i64 (b : Int), .int .i64 cc] 40 (0, 0)) = W := ⟨_, rfl⟩
  rw [hw3] at k2
  have y0 := row_cell (k2.at 3 rfl) 0 (v := .int .i64 19) rfl
  have y1 := row_cell (k2.at 3 rfl) 1 (v := .int .i64 (a : Int)) rfl
  have y2 := row_cell (k2.at 3 rfl) 2 (v := .int .i64 (b : Int)) rfl
  have y3 := row_cell (k2.at 3 rfl) 3 (v := .int .i64 cc) rfl
  have z0 := row_cell (k2.at 1 rfl) 0 (stc_pc _ _ _ _ _ _ _)
  have za := row_cell (k2.at 1 rfl) (1 + a) (stc_get (p : Int) g (.slice A n c) rd out (st + 1) 0 a ha)
  have a0 : (0 : Int) ≤ (a : Int) := by omega
  have a1 : (a : Int) < 16 := by omega
  have m0 : cc % 4294967296 = cc := by omega
  have wp : IntKind.i64.wrap ((p : Int) + 1) = (p : Int) + 1 := by rw [IntKind.wrap_i64]; omega
  have g0 := Lib.hid (k2.at 1 rfl)
  have HK := Lib.hid k2
  have cs := fun w => jump_ref (p : Int) g A n c rd out (st + 1) 0 cc w
  have CS := Lib.hid cs
  rw [hg] at za
  clear k2 cs hbl
  go_upto_region 37 with fail
  go_wp2_with (first
    | (refine wpList_load_row rfl 30 _ rfl _ rfl 30 _ _ _ g0.out Tryd.underlying30 rfl (infoS2 rfl) ?_)
    | fail)
  refine (CS.out _).mono ?_
  rintro e w2 ⟨rfl, hb⟩
  have kz := HK.out.after hb
  have hz := kz.putRow 2 rfl (.inr (by omega)) (stc cc g (.slice A n c) rd out (st + 1) 0)
  have g1 := Lib.hid (kz.at 2 rfl)
  have g2 := Lib.hid (hz.at 2 rfl)
  have HB := Lib.hid hz.be.plain
  have S1 : Hid ((stc cc g (.slice A n c) rd out (st + 1) 0).all (·.oneCell') = true) := Lib.hid (stc_one _ _ _ _ _ _ _ _ _)
  clear kz hz hb
  go_wp2_with (first
    | (refine wpList_store_rowTo rfl 30 _ _ rfl rfl _ _ rfl rfl 30 _ g1.out (infoS2 rfl) rfl S1.out ?_)
    | fail)
  exact bodyPost_ret (results_cell_row rfl _ _ _ 30 (stc cc g (.slice A n c) rd out (st + 1) 0) _ _ rfl g2.out Tryd.underlying30 rfl (infoS2 rfl)) rfl ⟨rfl, HB.out⟩
set_option maxRecDepth 100000 in
set_option maxHeartbeats 4000000 in
theorem step_jz_no (p : Nat) (g : Nat → Int) (A : Option Addr) (n c : Nat) (rd : Int) (out : ByteArray) (st : Int) {B : Option Addr} {m k : Nat} {code : List Int} {d : Int} (inp : ByteArray) (v : Int) {a b : Nat} {cc : Int} (w : World) (hc : Rd w B m code) (hm : m ≤ 1073741824) (hp : p < m) (hv : code.getD p 0 = v) (hst : -9223372036854775808 ≤ st ∧ st < 4611686018427387904) (hd : dcd v = #[.int .i64 19, .int .i64 (a : Int), .int .i64 (b : Int), .int .i64 cc]) (hde : dce v = 0) (ha : a < 16) (hb : b < 16) (hcc : 0 ≤ cc ∧ cc ≤ 65535) (hg : ¬ g a = 0) :
    Calls Tryd.prog 16 #[.agg #[.slice B m k, .int .i64 d], .string inp, .agg (stc (p : Int) g (.slice A n c) rd out st 0)] w fun e w' => e = .returned (.agg (stc ((p : Int) + 1) g (.slice A n c) rd out (st + 1) 0)) ∧ Below w.heap.size w w' := by
  have hv0 : 0 ≤ v ∧ v < 4294967296 := by rw [← hv]; exact hc.2.2 p
  obtain ⟨bk, off, rfl, hcell⟩ := rd_at9 hc hp
  rw [hv] at hcell
  have hk := (((Kx.nil none w).more (.cells #[.slice (some ⟨bk, off, none⟩) m k, .int .i64 d] 24 (0, 0))).add (w.heap.size + 1) (by simp) (.cells (stc (p : Int) g (.slice A n c) rd out st 0) 30 (0, 0))).add (w.heap.size + 1 + 1) (by simp) (.cells #[.int .i64 0, .int .u32 0, .int .u32 0, .int .u32 0, .int .u32 0, .int .u32 0, .int .u32 0, .int .u32 0, .int .u32 0, .int .u32 0, .int .u32 0, .int .u32 0, .int .u32 0, .int .u32 0, .int .u32 0, .int .u32 0, .int .u32 0, .slice none 0 0, .int .i64 0, .string ⟨#[]⟩, .int .i64 0, .int .i64 0] 30 (0, 0))
  obtain ⟨W0, hW0⟩ : ∃ W, ((w.alloc (.cells #[.slice (some ⟨bk, off, none⟩) m k, .int .i64 d] 24 (0, 0))).alloc (.cells (stc (p : Int) g (.slice A n c) rd out st 0) 30 (0, 0))).alloc (.cells #[.int .i64 0, .int .u32 0, .int .u32 0, .int .u32 0, .int .u32 0, .int .u32 0, .int .u32 0, .int .u32 0, .int .u32 0, .int .u32 0, .int .u32 0, .int .u32 0, .int .u32 0, .int .u32 0, .int .u32 0, .int .u32 0, .int .u32 0, .slice none 0 0, .int .i64 0, .string ⟨#[]⟩, .int .i64 0, .int .i64 0] 30 (0, 0)) = W := ⟨_, rfl⟩
  rw [hW0] at hk
  have ce := row_cell (hk.at 1 rfl) 21 (stc_en _ _ _ _ _ _ _)
  have cp := row_cell (hk.at 1 rfl) 0 (stc_pc _ _ _ _ _ _ _)
  have cm : W0.cell? ⟨w.heap.size, 0, none⟩ = some (.slice (some ⟨bk, off, none⟩) m k) := row_cell (hk.at 0 rfl) 0 rfl
  have cst := row_cell (hk.at 1 rfl) 20 (stc_st _ _ _ _ _ _ _)
  have fst := row_froz (hk.at 1 rfl) 20
  have k1 := hk.putc 1 rfl (.inr (by omega)) 20 (.int .i64 (st + 1)) (set_st _ _ _ _ _ _ _ (st + 1))
  have cp1 := row_cell (k1.at 1 rfl) 0 (stc_pc _ _ _ _ _ _ _)
  have cm1 : (W0.setCell ⟨w.heap.size + 1, 20, none⟩ (.int .i64 (st + 1))).cell? ⟨w.heap.size, 0, none⟩ = some (.slice (some ⟨bk, off, none⟩) m k) := row_cell (k1.at 0 rfl) 0 rfl
  have hb0 : bk < w.heap.size := by
    rcases hc.2.1 with h0 | ⟨b1, o1, e1, hlt, _⟩
    · omega
    · injection e1 with e1
      injection e1 with e1 _ _
      rw [e1]; exact hlt
  have cc1 := (k1.be.plain.cell (p := ⟨bk, off + p, none⟩) hb0).trans hcell
  have p0 : (0 : Int) ≤ (p : Int) := by omega
  have p1 : (p : Int) < (m : Int) := by omega
  have i1 : decide ((p : Int) < 0) = false := decide_eq_false (by omega)
  have i2 : decide ((m : Int) ≤ (p : Int)) = false := decide_eq_false (by omega)
  have w1 : IntKind.i64.wrap (st + 1) = st + 1 := by rw [IntKind.wrap_i64]; omega
  have cd := fun w => decode_ref v w hv0.1 hv0.2
  rw [hd, hde] at cd
  have CD := Lib.hid cd
  have HK1 := Lib.hid k1
  clear cd hk k1 hcell hc hv hv0 hb0
  go_enter Tryd.func16, Tryd.ntmps16
  go_upto_region 6 with fail
  go_wp2_with fail
  refine (CD.out _).mono ?_
  rintro e w2 ⟨rfl, hbl⟩
  have k2 := (HK1.out.after hbl).add w2.heap.size rfl (.cells #[.int .i64 19, .int .i64 (a : Int), .int .i64 (b : Int), .int .i64 cc] 40 (0, 0))
  obtain ⟨w3, hw3⟩ : ∃ W, w2.alloc (.cells #[.int .i64 19, .int .i64 (a : Int), .int .i64 (b : Int), .int .i64 cc] 40 (0, 0)) = W := ⟨_, rfl⟩
  rw [hw3] at k2
  have y0 := row_cell (k2.at 3 rfl) 0 (v := .int .i64 19) rfl
  have y1 := row_cell (k2.at 3 rfl) 1 (v := .int .i64 (a : Int)) rfl
  have y2 := row_cell (k2.at 3 rfl) 2 (v := .int .i64 (b : Int)) rfl
  have y3 := row_cell (k2.at 3 rfl) 3 (v := .int .i64 cc) rfl
  have z0 := row_cell (k2.at 1 rfl) 0 (stc_pc _ _ _ _ _ _ _)
  have za := row_cell (k2.at 1 rfl) (1 + a) (stc_get (p : Int) g (.slice A n c) rd out (st + 1) 0 a ha)
  have a0 : (0 : Int) ≤ (a : Int) := by omega
  have a1 : (a : Int) < 16 := by omega
  have m0 : cc % 4294967296 = cc := by omega
  have wp : IntKind.i64.wrap ((p : Int) + 1) = (p : Int) + 1 := by rw [IntKind.wrap_i64]; omega
  have g0 := Lib.hid (k2.at 1 rfl)
  have HK := Lib.hid k2
  have cs := fun w => jump_ref (p : Int) g A n c rd out (st + 1) 0 ((p : Int) + 1) w
  have CS := Lib.hid cs
  have hq : (g a == 0) = false := beq_eq_false_iff_ne.2 hg
  clear k2 cs hbl
  go_upto_region 38 with fail
  go_wp2_with (first
    | (refine wpList_load_row rfl 30 _ rfl _ rfl 30 _ _ _ g0.out Tryd.underlying30 rfl (infoS2 rfl) ?_)
    | fail)
  refine (CS.out _).mono ?_
  rintro e w2 ⟨rfl, hb⟩
  have kz := HK.out.after hb
  have hz := kz.putRow 2 rfl (.inr (by omega)) (stc ((p : Int) + 1) g (.slice A n c) rd out (st + 1) 0)
  have g1 := Lib.hid (kz.at 2 rfl)
  have g2 := Lib.hid (hz.at 2 rfl)
  have HB := Lib.hid hz.be.plain
  have S1 : Hid ((stc ((p : Int) + 1) g (.slice A n c) rd out (st + 1) 0).all (·.oneCell') = true) := Lib.hid (stc_one _ _ _ _ _ _ _ _ _)
  clear kz hz hb
  go_wp2_with (first
    | (refine wpList_store_rowTo rfl 30 _ _ rfl rfl _ _ rfl rfl 30 _ g1.out (infoS2 rfl) rfl S1.out ?_)
    | fail)
  exact bodyPost_ret (results_cell_row rfl _ _ _ 30 (stc ((p : Int) + 1) g (.slice A n c) rd out (st + 1) 0) _ _ rfl g2.out Tryd.underlying30 rfl (infoS2 rfl)) rfl ⟨rfl, HB.out⟩
set_option maxRecDepth 100000 in
set_option maxHeartbeats 4000000 in
theorem step_jnz_yes (p : Nat) (g : Nat → Int) (A : Option Addr) (n c : Nat) (rd : Int) (out : ByteArray) (st : Int) {B : Option Addr} {m k : Nat} {code : List Int} {d : Int} (inp : ByteArray) (v : Int) {a b : Nat} {cc : Int} (w : World) (hc : Rd w B m code) (hm : m ≤ 1073741824) (hp : p < m) (hv : code.getD p 0 = v) (hst : -9223372036854775808 ≤ st ∧ st < 4611686018427387904) (hd : dcd v = #[.int .i64 20, .int .i64 (a : Int), .int .i64 (b : Int), .int .i64 cc]) (hde : dce v = 0) (ha : a < 16) (hb : b < 16) (hcc : 0 ≤ cc ∧ cc ≤ 65535) (hg : ¬ g a = 0) :
    Calls Tryd.prog 16 #[.agg #[.slice B m k, .int .i64 d], .string inp, .agg (stc (p : Int) g (.slice A n c) rd out st 0)] w fun e w' => e = .returned (.agg (stc cc g (.slice A n c) rd out (st + 1) 0)) ∧ Below w.heap.size w w' := by
  have hv0 : 0 ≤ v ∧ v < 4294967296 := by rw [← hv]; exact hc.2.2 p
  obtain ⟨bk, off, rfl, hcell⟩ := rd_at9 hc hp
  rw [hv] at hcell
  have hk := (((Kx.nil none w).more (.cells #[.slice (some ⟨bk, off, none⟩) m k, .int .i64 d] 24 (0, 0))).add (w.heap.size + 1) (by simp) (.cells (stc (p : Int) g (.slice A n c) rd out st 0) 30 (0, 0))).add (w.heap.size + 1 + 1) (by simp) (.cells #[.int .i64 0, .int .u32 0, .int .u32 0, .int .u32 0, .int .u32 0, .int .u32 0, .int .u32 0, .int .u32 0, .int .u32 0, .int .u32 0, .int .u32 0, .int .u32 0, .int .u32 0, .int .u32 0, .int .u32 0, .int .u32 0, .int .u32 0, .slice none 0 0, .int .i64 0, .string ⟨#[]⟩, .int .i64 0, .int .i64 0] 30 (0, 0))
  obtain ⟨W0, hW0⟩ : ∃ W, ((w.alloc (.cells #[.slice (some ⟨bk, off, none⟩) m k, .int .i64 d] 24 (0, 0))).alloc (.cells (stc (p : Int) g (.slice A n c) rd out st 0) 30 (0, 0))).alloc (.cells #[.int .i64 0, .int .u32 0, .int .u32 0, .int .u32 0, .int .u32 0, .int .u32 0, .int .u32 0, .int .u32 0, .int .u32 0, .int .u32 0, .int .u32 0, .int .u32 0, .int .u32 0, .int .u32 0, .int .u32 0, .int .u32 0, .int .u32 0, .slice none 0 0, .int .i64 0, .string ⟨#[]⟩, .int .i64 0, .int .i64 0] 30 (0, 0)) = W := ⟨_, rfl⟩
  rw [hW0] at hk
  have ce := row_cell (hk.at 1 rfl) 21 (stc_en _ _ _ _ _ _ _)
  have cp := row_cell (hk.at 1 rfl) 0 (stc_pc _ _ _ _ _ _ _)
  have cm : W0.cell? ⟨w.heap.size, 0, none⟩ = some (.slice (some ⟨bk, off, none⟩) m k) := row_cell (hk.at 0 rfl) 0 rfl
  have cst := row_cell (hk.at 1 rfl) 20 (stc_st _ _ _ _ _ _ _)
  have fst := row_froz (hk.at 1 rfl) 20
  have k1 := hk.putc 1 rfl (.inr (by omega)) 20 (.int .i64 (st + 1)) (set_st _ _ _ _ _ _ _ (st + 1))
  have cp1 := row_cell (k1.at 1 rfl) 0 (stc_pc _ _ _ _ _ _ _)
  have cm1 : (W0.setCell ⟨w.heap.size + 1, 20, none⟩ (.int .i64 (st + 1))).cell? ⟨w.heap.size, 0, none⟩ = some (.slice (some ⟨bk, off, none⟩) m k) := row_cell (k1.at 0 rfl) 0 rfl
  have hb0 : bk < w.heap.size := by
    rcases hc.2.1 with h0 | ⟨b1, o1, e1, hlt, _⟩
    · omega
    · injection e1 with e1
      injection e1 with e1 _ _
      rw [e1]; exact hlt
  have cc1 := (k1.be.plain.cell (p := ⟨bk, off + p, none⟩) hb0).trans hcell
  have p0 : (0 : Int) ≤ (p : Int) := by omega
  have p1 : (p : Int) < (m : Int) := by omega
  have i1 : decide ((p : Int) < 0) = false := decide_eq_false (by omega)
  have i2 : decide ((m : Int) ≤ (p : Int)) = false := decide_eq_false (by omega)
  have w1 : IntKind.i64.wrap (st + 1) = st + 1 := by rw [IntKind.wrap_i64]; omega
  have cd := fun w => decode_ref v w hv0.1 hv0.2
  rw [hd, hde] at cd
  have CD := Lib.hid cd
  have HK1 := Lib.hid k1
  clear cd hk k1 hcell hc hv hv0 hb0
  go_enter Tryd.func16, Tryd.ntmps16
  go_upto_region 6 with fail
  go_wp2_with fail
  refine (CD.out _).mono ?_
  rintro e w2 ⟨rfl, hbl⟩
  have k2 := (HK1.out.after hbl).add w2.heap.size rfl (.cells #[.int .i64 20, .int .i64 (a : Int), .int .i64 (b : Int), .int .i64 cc] 40 (0, 0))
  obtain ⟨w3, hw3⟩ : ∃ W, w2.alloc (.cells #[.int .i64 20, .int .i64 (a : Int), .int .i64 (b : Int), .int .i64 cc] 40 (0, 0)) = W := ⟨_, rfl⟩
  rw [hw3] at k2
  have y0 := row_cell (k2.at 3 rfl) 0 (v := .int .i64 20) rfl
  have y1 := row_cell (k2.at 3 rfl) 1 (v := .int .i64 (a : Int)) rfl
  have y2 := row_cell (k2.at 3 rfl) 2 (v := .int .i64 (b : Int)) rfl
  have y3 := row_cell (k2.at 3 rfl) 3 (v := .int .i64 cc) rfl
  have z0 := row_cell (k2.at 1 rfl) 0 (stc_pc _ _ _ _ _ _ _)
  have za := row_cell (k2.at 1 rfl) (1 + a) (stc_get (p : Int) g (.slice A n c) rd out (st + 1) 0 a ha)
  have a0 : (0 : Int) ≤ (a : Int) := by omega
  have a1 : (a : Int) < 16 := by omega
  have m0 : cc % 4294967296 = cc := by omega
  have wp : IntKind.i64.wrap ((p : Int) + 1) = (p : Int) + 1 := by rw [IntKind.wrap_i64]; omega
  have g0 := Lib.hid (k2.at 1 rfl)
  have HK := Lib.hid k2
  have cs := fun w => jump_ref (p : Int) g A n c rd out (st + 1) 0 cc w
  have CS := Lib.hid cs
  have hq : (g a == 0) = false := beq_eq_false_iff_ne.2 hg
  clear k2 cs hbl
  go_upto_region 41 with fail
  go_wp2_with (first
    | (refine wpList_load_row rfl 30 _ rfl _ rfl 30 _ _ _ g0.out Tryd.underlying30 rfl (infoS2 rfl) ?_)
    | fail)
  refine (CS.out _).mono ?_
  rintro e w2 ⟨rfl, hb⟩
  have kz := HK.out.after hb
  have hz := kz.putRow 2 rfl (.inr (by omega)) (stc cc g (.slice A n c) rd out (st + 1) 0)
  have g1 := Lib.hid (kz.at 2 rfl)
  have g2 := Lib.hid (hz.at 2 rfl)
  have HB := Lib.hid hz.be.plain
  have S1 : Hid ((stc cc g (.slice A n c) rd out (st + 1) 0).all (·.oneCell') = true) := Lib.hid (stc_one _ _ _ _ _ _ _ _ _)
  clear kz hz hb
  go_wp2_with (first
    | (refine wpList_store_rowTo rfl 30 _ _ rfl rfl _ _ rfl rfl 30 _ g1.out (infoS2 rfl) rfl S1.out ?_)
    | fail)
  exact bodyPost_ret (results_cell_row rfl _ _ _ 30 (stc cc g (.slice A n c) rd out (st + 1) 0) _ _ rfl g2.out Tryd.underlying30 rfl (infoS2 rfl)) rfl ⟨rfl, HB.out⟩
set_option maxRecDepth 100000 in
set_option maxHeartbeats 4000000 in
theorem step_jnz_no (p : Nat) (g : Nat → Int) (A : Option Addr) (n c : Nat) (rd : Int) (out : ByteArray) (st : Int) {B : Option Addr} {m k : Nat} {code : List Int} {d : Int} (inp : ByteArray) (v : Int) {a b : Nat} {cc : Int} (w : World) (hc : Rd w B m code) (hm : m ≤ 1073741824) (hp : p < m) (hv : code.getD p 0 = v) (hst : -9223372036854775808 ≤ st ∧ st < 4611686018427387904) (hd : dcd v = #[.int .i64 20, .int .i64 (a : Int), .int .i64 (b : Int), .int .i64 cc]) (hde : dce v = 0) (ha : a < 16) (hb : b < 16) (hcc : 0 ≤ cc ∧ cc ≤ 65535) (hg : g a = 0) :
    Calls Tryd.prog 16 #[.agg #[.slice B m k, .int .i64 d], .string inp, .agg (stc (p : Int) g (.slice A n c) rd out st 0)] w fun e w' => e = .returned (.agg (stc ((p : Int) + 1) g (.slice A n c) rd out (st + 1) 0)) ∧ Below w.heap.size w w' := by
  have hv0 : 0 ≤ v ∧ v < 4294967296 := by rw [← hv]; exact hc.2.2 p
  obtain ⟨bk, off, rfl, hcell⟩ := rd_at9 hc hp
  rw [hv] at hcell
  have hk := (((Kx.nil none w).more (.cells #[.slice (some ⟨bk, off, none⟩) m k, .int .i64 d] 24 (0, 0))).add (w.heap.size + 1) (by simp) (.cells (stc (p : Int) g (.slice A n c) rd out st 0) 30 (0, 0))).add (w.heap.size + 1 + 1) (by simp) (.cells #[.int .i64 0, .int .u32 0, .int .u32 0, .int .u32 0, .int .u32 0, .int .u32 0, .int .u32 0, .int .u32 0, .int .u32 0, .int .u32 0, .int .u32 0, .int .u32 0, .int .u32 0, .int .u32 0, .int .u32 0, .int .u32 0, .int .u32 0, .slice none 0 0, .int .i64 0, .string ⟨#[]⟩, .int .i64 0, .int .i64 0] 30 (0, 0))
  obtain ⟨W0, hW0⟩ : ∃ W, ((w.alloc (.cells #[.slice (some ⟨bk, off, none⟩) m k, .int .i64 d] 24 (0, 0))).alloc (.cells (stc (p : Int) g (.slice A n c) rd out st 0) 30 (0, 0))).alloc (.cells #[.int .i64 0, .int .u32 0, .int .u32 0, .int .u32 0, .int .u32 0, .int .u32 0, .int .u32 0, .int .u32 0, .int .u32 0, .int .u32 0, .int .u32 0, .int .u32 0, .int .u32 0, .int .u32 0, .int .u32 0, .int .u32 0, .int .u32 0, .slice none 0 0, .int .i64 0, .string ⟨#[]⟩, .int .i64 0, .int .i64 0] 30 (0, 0)) = W := ⟨_, rfl⟩
  rw [hW0] at hk
  have ce := row_cell (hk.at 1 rfl) 21 (stc_en _ _ _ _ _ _ _)
  have cp := row_cell (hk.at 1 rfl) 0 (stc_pc _ _ _ _ _ _ _)
  have cm : W0.cell? ⟨w.heap.size, 0, none⟩ = some (.slice (some ⟨bk, off, none⟩) m k) := row_cell (hk.at 0 rfl) 0 rfl
  have cst := row_cell (hk.at 1 rfl) 20 (stc_st _ _ _ _ _ _ _)
  have fst := row_froz (hk.at 1 rfl) 20
  have k1 := hk.putc 1 rfl (.inr (by omega)) 20 (.int .i64 (st + 1)) (set_st _ _ _ _ _ _ _ (st + 1))
  have cp1 := row_cell (k1.at 1 rfl) 0 (stc_pc _ _ _ _ _ _ _)
  have cm1 : (W0.setCell ⟨w.heap.size + 1, 20, none⟩ (.int .i64 (st + 1))).cell? ⟨w.heap.size, 0, none⟩ = some (.slice (some ⟨bk, off, none⟩) m k) := row_cell (k1.at 0 rfl) 0 rfl
  have hb0 : bk < w.heap.size := by
    rcases hc.2.1 with h0 | ⟨b1, o1, e1, hlt, _⟩
    · omega
    · injection e1 with e1
      injection e1 with e1 _ _
      rw [e1]; exact hlt
  have cc1 := (k1.be.plain.cell (p := ⟨bk, off + p, none⟩) hb0).trans hcell
  have p0 : (0 : Int) ≤ (p : Int) := by omega
  have p1 : (p : Int) < (m : Int) := by omega
  have i1 : decide ((p : Int) < 0) = false := decide_eq_false (by omega)
  have i2 : decide ((m : Int) ≤ (p : Int)) = false := decide_eq_false (by omega)
  have w1 : IntKind.i64.wrap (st + 1) = st + 1 := by rw [IntKind.wrap_i64]; omega
  have cd := fun w => decode_ref v w hv0.1 hv0.2
  rw [hd, hde] at cd
  have CD := Lib.hid cd
  have HK1 := Lib.hid k1
  clear cd hk k1 hcell hc hv hv0 hb0
  go_enter Tryd.func16, Tryd.ntmps16
  go_upto_region 6 with fail
  go_wp2_with fail
  refine (CD.out _).mono ?_
  rintro e w2 ⟨rfl, hbl⟩
  have k2 := (HK1.out.after hbl).add w2.heap.size rfl (.cells #[.int .i64 20, .int .i64 (a : Int), .int .i64 (b : Int), .int .i64 cc] 40 (0, 0))
  obtain ⟨w3, hw3⟩ : ∃ W, w2.alloc (.cells #[.int .i64 20, .int .i64 (a : Int), .int .i64 (b : Int), .int .i64 cc] 40 (0, 0)) = W := ⟨_, rfl⟩
  rw [hw3] at k2
  have y0 := row_cell (k2.at 3 rfl) 0 (v := .int .i64 20) rfl
  have y1 := row_cell (k2.at 3 rfl) 1 (v := .int .i64 (a : Int)) rfl
  have y2 := row_cell (k2.at 3 rfl) 2 (v := .int .i64 (b : Int)) rfl
  have y3 := row_cell (k2.at 3 rfl) 3 (v := .int .i64 cc) rfl
  have z0 := row_cell (k2.at 1 rfl) 0 (stc_pc _ _ _ _ _ _ _)
  have za := row_cell (k2.at 1 rfl) (1 + a) (stc_get (p : Int) g (.slice A n c) rd out (st + 1) 0 a ha)
  have a0 : (0 : Int) ≤ (a : Int) := by omega
  have a1 : (a : Int) < 16 := by omega
  have m0 : cc % 4294967296 = cc := by omega
  have wp : IntKind.i64.wrap ((p : Int) + 1) = (p : Int) + 1 := by rw [IntKind.wrap_i64]; omega
  have g0 := Lib.hid (k2.at 1 rfl)
  have HK := Lib.hid k2
  have cs := fun w => jump_ref (p : Int) g A n c rd out (st + 1) 0 ((p : Int) + 1) w
  have CS := Lib.hid cs
  rw [hg] at za
  clear k2 cs hbl
  go_upto_region 42 with fail
  go_wp2_with (first
    | (refine wpList_load_row rfl 30 _ rfl _ rfl 30 _ _ _ g0.out Tryd.underlying30 rfl (infoS2 rfl) ?_)
    | fail)
  refine (CS.out _).mono ?_
  rintro e w2 ⟨rfl, hb⟩
  have kz := HK.out.after hb
  have hz := kz.putRow 2 rfl (.inr (by omega)) (stc ((p : Int) + 1) g (.slice A n c) rd out (st + 1) 0)
  have g1 := Lib.hid (kz.at 2 rfl)
  have g2 := Lib.hid (hz.at 2 rfl)
  have HB := Lib.hid hz.be.plain
  have S1 : Hid ((stc ((p : Int) + 1) g (.slice A n c) rd out (st + 1) 0).all (·.oneCell') = true) := Lib.hid (stc_one _ _ _ _ _ _ _ _ _)
  clear kz hz hb
  go_wp2_with (first
    | (refine wpList_store_rowTo rfl 30 _ _ rfl rfl _ _ rfl rfl 30 _ g1.out (infoS2 rfl) rfl S1.out ?_)
    | fail)
  exact bodyPost_ret (results_cell_row rfl _ _ _ 30 (stc ((p : Int) + 1) g (.slice A n c) rd out (st + 1) 0) _ _ rfl g2.out Tryd.underlying30 rfl (infoS2 rfl)) rfl ⟨rfl, HB.out⟩
set_option maxRecDepth 100000 in
set_option maxHeartbeats 4000000 in
theorem step_get_no (p : Nat) (g : Nat → Int) (A : Option Addr) (n c : Nat) (rd : Int) (out : ByteArray) (st : Int) {B : Option Addr} {m k : Nat} {code : List Int} {d : Int} (inp : ByteArray) (v : Int) {a b : Nat} {cc : Int} (w : World) (hc : Rd w B m code) (hm : m ≤ 1073741824) (hp : p < m) (hv : code.getD p 0 = v) (hst : -9223372036854775808 ≤ st ∧ st < 4611686018427387904) (hd : dcd v = #[.int .i64 23, .int .i64 (a : Int), .int .i64 (b : Int), .int .i64 cc]) (hde : dce v = 0) (ha : a < 16) (hb : b < 16) (hcc : 0 ≤ cc ∧ cc ≤ 65535) (hr : ¬ (0 ≤ rd ∧ rd < (inp.size : Int))) :
    Calls Tryd.prog 16 #[.agg #[.slice B m k, .int .i64 d], .string inp, .agg (stc (p : Int) g (.slice A n c) rd out st 0)] w fun e w' => e = .returned (.agg (stc ((p : Int) + 1) (gset g a 256) (.slice A n c) rd out (st + 1) 0)) ∧ Below w.heap.size w w' := by
  have hv0 : 0 ≤ v ∧ v < 4294967296 := by rw [← hv]; exact hc.2.2 p
  obtain ⟨bk, off, rfl, hcell⟩ := rd_at9 hc hp
  rw [hv] at hcell
  have hk := (((Kx.nil none w).more (.cells #[.slice (some ⟨bk, off, none⟩) m k, .int .i64 d] 24 (0, 0))).add (w.heap.size + 1) (by simp) (.cells (stc (p : Int) g (.slice A n c) rd out st 0) 30 (0, 0))).add (w.heap.size + 1 + 1) (by simp) (.cells #[.int .i64 0, .int .u32 0, .int .u32 0, .int .u32 0, .int .u32 0, .int .u32 0, .int .u32 0, .int .u32 0, .int .u32 0, .int .u32 0, .int .u32 0, .int .u32 0, .int .u32 0, .int .u32 0, .int .u32 0, .int .u32 0, .int .u32 0, .slice none 0 0, .int .i64 0, .string ⟨#[]⟩, .int .i64 0, .int .i64 0] 30 (0, 0))
  obtain ⟨W0, hW0⟩ : ∃ W, ((w.alloc (.cells #[.slice (some ⟨bk, off, none⟩) m k, .int .i64 d] 24 (0, 0))).alloc (.cells (stc (p : Int) g (.slice A n c) rd out st 0) 30 (0, 0))).alloc (.cells #[.int .i64 0, .int .u32 0, .int .u32 0, .int .u32 0, .int .u32 0, .int .u32 0, .int .u32 0, .int .u32 0, .int .u32 0, .int .u32 0, .int .u32 0, .int .u32 0, .int .u32 0, .int .u32 0, .int .u32 0, .int .u32 0, .int .u32 0, .slice none 0 0, .int .i64 0, .string ⟨#[]⟩, .int .i64 0, .int .i64 0] 30 (0, 0)) = W := ⟨_, rfl⟩
  rw [hW0] at hk
  have ce := row_cell (hk.at 1 rfl) 21 (stc_en _ _ _ _ _ _ _)
  have cp := row_cell (hk.at 1 rfl) 0 (stc_pc _ _ _ _ _ _ _)
  have cm : W0.cell? ⟨w.heap.size, 0, none⟩ = some (.slice (some ⟨bk, off, none⟩) m k) := row_cell (hk.at 0 rfl) 0 rfl
  have cst := row_cell (hk.at 1 rfl) 20 (stc_st _ _ _ _ _ _ _)
  have fst := row_froz (hk.at 1 rfl) 20
  have k1 := hk.putc 1 rfl (.inr (by omega)) 20 (.int .i64 (st + 1)) (set_st _ _ _ _ _ _ _ (st + 1))
  have cp1 := row_cell (k1.at 1 rfl) 0 (stc_pc _ _ _ _ _ _ _)
  have cm1 : (W0.setCell ⟨w.heap.size + 1, 20, none⟩ (.int .i64 (st + 1))).cell? ⟨w.heap.size, 0, none⟩ = some (.slice (some ⟨bk, off, none⟩) m k) := row_cell (k1.at 0 rfl) 0 rfl
  have hb0 : bk < w.heap.size := by
    rcases hc.2.1 with h0 | ⟨b1, o1, e1, hlt, _⟩
    · omega
    · injection e1 with e1
      injection e1 with e1 _ _
      rw [e1]; exact hlt
  have cc1 := (k1.be.plain.cell (p := ⟨bk, off + p, none⟩) hb0).trans hcell
  have p0 : (0 : Int) ≤ (p : Int) := by omega
  have p1 : (p : Int) < (m : Int) := by omega
  have i1 : decide ((p : Int) < 0) = false := decide_eq_false (by omega)
  have i2 : decide ((m : Int) ≤ (p : Int)) = false := decide_eq_false (by omega)
  have w1 : IntKind.i64.wrap (st + 1) = st + 1 := by rw [IntKind.wrap_i64]; omega
  have cd := fun w => decode_ref v w hv0.1 hv0.2
  rw [hd, hde] at cd
  have CD := Lib.hid cd
  have HK1 := Lib.hid k1
  clear cd hk k1 hcell hc hv hv0 hb0
  go_enter Tryd.func16, Tryd.ntmps16
  go_upto_region 6 with fail
  go_wp2_with fail
  refine (CD.out _).mono ?_
  rintro e w2 ⟨rfl, hbl⟩
  have k2 := (HK1.out.after hbl).add w2.heap.size rfl (.cells #[.int .i64 23, .int .i64 (a : Int), .int .i64 (b : Int), .int .i64 cc] 40 (0, 0))
  obtain ⟨w3, hw3⟩ : ∃ W, w2.alloc (.cells #[.int .i64 23, .int .i64 (a : Int), .int .i64 (b : Int), .int .i64 cc] 40 (0, 0)) = W := ⟨_, rfl⟩
  rw [hw3] at k2
  have y0 := row_cell (k2.at 3 rfl) 0 (v := .int .i64 23) rfl
  have y1 := row_cell (k2.at 3 rfl) 1 (v := .int .i64 (a : Int)) rfl
  have y2 := row_cell (k2.at 3 rfl) 2 (v := .int .i64 (b : Int)) rfl
  have y3 := row_cell (k2.at 3 rfl) 3 (v := .int .i64 cc) rfl
  have z0 := row_cell (k2.at 1 rfl) 0 (stc_pc _ _ _ _ _ _ _)
  have za := row_cell (k2.at 1 rfl) (1 + a) (stc_get (p : Int) g (.slice A n c) rd out (st + 1) 0 a ha)
  have a0 : (0 : Int) ≤ (a : Int) := by omega
  have a1 : (a : Int) < 16 := by omega
  have m0 : cc % 4294967296 = cc := by omega
  have wp : IntKind.i64.wrap ((p : Int) + 1) = (p : Int) + 1 := by rw [IntKind.wrap_i64]; omega
  have g0 := Lib.hid (k2.at 1 rfl)
  have HK := Lib.hid k2
  have cs := fun w => get_no (p : Int) g A n c rd out (st + 1) 0 inp a w ha (by omega) hr
  have CS := Lib.hid cs
  clear k2 cs hbl
  go_upto_region 48 with fail
  go_wp2_with (first
    | (refine wpList_load_row rfl 30 _ rfl _ rfl 30 _ _ _ g0.out Tryd.underlying30 rfl (infoS2 rfl) ?_)
    | fail)
  refine (CS.out _).mono ?_
  rintro e w2 ⟨rfl, hb⟩
  have kz := HK.out.after hb
  have hz := kz.putRow 2 rfl (.inr (by omega)) (stc ((p : Int) + 1) (gset g a 256) (.slice A n c) rd out (st + 1) 0)
  have g1 := Lib.hid (kz.at 2 rfl)
  have g2 := Lib.hid (hz.at 2 rfl)
  have HB := Lib.hid hz.be.plain
  have S1 : Hid ((stc ((p : Int) + 1) (gset g a 256) (.slice A n c) rd out (st + 1) 0).all (·.oneCell') = true) := Lib.hid (stc_one _ _ _ _ _ _ _ _ _)
  clear kz hz hb
  go_wp2_with (first
    | (refine wpList_store_rowTo rfl 30 _ _ rfl rfl _ _ rfl rfl 30 _ g1.out (infoS2 rfl) rfl S1.out ?_)
    | fail)
  exact bodyPost_ret (results_cell_row rfl _ _ _ 30 (stc ((p : Int) + 1) (gset g a 256) (.slice A n c) rd out (st + 1) 0) _ _ rfl g2.out Tryd.underlying30 rfl (infoS2 rfl)) rfl ⟨rfl, HB.out⟩
set_option maxRecDepth 100000 in
set_option maxHeartbeats 4000000 in
theorem step_get_yes (p : Nat) (g : Nat → Int) (A : Option Addr) (n c : Nat) (rd : Int) (out : ByteArray) (st : Int) {B : Option Addr} {m k : Nat} {code : List Int} {d : Int} (inp : ByteArray) (v : Int) {a b : Nat} {cc : Int} (w : World) (hc : Rd w B m code) (hm : m ≤ 1073741824) (hp : p < m) (hv : code.getD p 0 = v) (hst : -9223372036854775808 ≤ st ∧ st < 4611686018427387904) (hd : dcd v = #[.int .i64 23, .int .i64 (a : Int), .int .i64 (b : Int), .int .i64 cc]) (hde : dce v = 0) (ha : a < 16) (hb : b < 16) (hcc : 0 ≤ cc ∧ cc ≤ 65535) (r : Nat) (u : UInt8) (hz : inp.size ≤ 1073741824) (hr : r < inp.size) (hrd : rd = (r : Int)) (hu : inp[r] = u) :
    Calls Tryd.prog 16 #[.agg #[.slice B m k, .int .i64 d], .string inp, .agg (stc (p : Int) g (.slice A n c) rd out st 0)] w fun e w' => e = .returned (.agg (stc ((p : Int) + 1) (gset g a (u.toNat : Int)) (.slice A n c) ((r : Int) + 1) out (st + 1) 0)) ∧ Below w.heap.size w w' := by
  have HRD := Lib.hid hrd
  clear hrd
  have hv0 : 0 ≤ v ∧ v < 4294967296 := by rw [← hv]; exact hc.2.2 p
  obtain ⟨bk, off, rfl, hcell⟩ := rd_at9 hc hp
  rw [hv] at hcell
  have hk := (((Kx.nil none w).more (.cells #[.slice (some ⟨bk, off, none⟩) m k, .int .i64 d] 24 (0, 0))).add (w.heap.size + 1) (by simp) (.cells (stc (p : Int) g (.slice A n c) rd out st 0) 30 (0, 0))).add (w.heap.size + 1 + 1) (by simp) (.cells #[.int .i64 0, .int .u32 0, .int .u32 0, .int .u32 0, .int .u32 0, .int .u32 0, .int .u32 0, .int .u32 0, .int .u32 0, .int .u32 0, .int .u32 0, .int .u32 0, .int .u32 0, .int .u32 0, .int .u32 0, .int .u32 0, .int .u32 0, .slice none 0 0, .int .i64 0, .string ⟨#[]⟩, .int .i64 0, .int .i64 0] 30 (0, 0))
  obtain ⟨W0, hW0⟩ : ∃ W, ((w.alloc (.cells #[.slice (some ⟨bk, off, none⟩) m k, .int .i64 d] 24 (0, 0))).alloc (.cells (stc (p : Int) g (.slice A n c) rd out st 0) 30 (0, 0))).alloc (.cells #[.int .i64 0, .int .u32 0, .int .u32 0, .int .u32 0, .int .u32 0, .int .u32 0, .int .u32 0, .int .u32 0, .int .u32 0, .int .u32 0, .int .u32 0, .int .u32 0, .int .u32 0, .int .u32 0, .int .u32 0, .int .u32 0, .int .u32 0, .slice none 0 0, .int .i64 0, .string ⟨#[]⟩, .int .i64 0, .int .i64 0] 30 (0, 0)) = W := ⟨_, rfl⟩
  rw [hW0] at hk
  have ce := row_cell (hk.at 1 rfl) 21 (stc_en _ _ _ _ _ _ _)
  have cp := row_cell (hk.at 1 rfl) 0 (stc_pc _ _ _ _ _ _ _)
  have cm : W0.cell? ⟨w.heap.size, 0, none⟩ = some (.slice (some ⟨bk, off, none⟩) m k) := row_cell (hk.at 0 rfl) 0 rfl
  have cst := row_cell (hk.at 1 rfl) 20 (stc_st _ _ _ _ _ _ _)
  have fst := row_froz (hk.at 1 rfl) 20
  have k1 := hk.putc 1 rfl (.inr (by omega)) 20 (.int .i64 (st + 1)) (set_st _ _ _ _ _ _ _ (st + 1))
  have cp1 := row_cell (k1.at 1 rfl) 0 (stc_pc _ _ _ _ _ _ _)
  have cm1 : (W0.setCell ⟨w.heap.size + 1, 20, none⟩ (.int .i64 (st + 1))).cell? ⟨w.heap.size, 0, none⟩ = some (.slice (some ⟨bk, off, none⟩) m k) := row_cell (k1.at 0 rfl) 0 rfl
  have hb0 : bk < w.heap.size := by
    rcases hc.2.1 with h0 | ⟨b1, o1, e1, hlt, _⟩
    · omega
    · injection e1 with e1
      injection e1 with e1 _ _
      rw [e1]; exact hlt
  have cc1 := (k1.be.plain.cell (p := ⟨bk, off + p, none⟩) hb0).trans hcell
  have p0 : (0 : Int) ≤ (p : Int) := by omega
  have p1 : (p : Int) < (m : Int) := by omega
  have i1 : decide ((p : Int) < 0) = false := decide_eq_false (by omega)
  have i2 : decide ((m : Int) ≤ (p : Int)) = false := decide_eq_false (by omega)
  have w1 : IntKind.i64.wrap (st + 1) = st + 1 := by rw [IntKind.wrap_i64]; omega
  have cd := fun w => decode_ref v w hv0.1 hv0.2
  rw [hd, hde] at cd
  have CD := Lib.hid cd
  have HK1 := Lib.hid k1
  clear cd hk k1 hcell hc hv hv0 hb0
  go_enter Tryd.func16, Tryd.ntmps16
  go_upto_region 6 with fail
  go_wp2_with fail
  refine (CD.out _).mono ?_
  rintro e w2 ⟨rfl, hbl⟩
  have k2 := (HK1.out.after hbl).add w2.heap.size rfl (.cells #[.int .i64 23, .int .i64 (a : Int), .int .i64 (b : Int), .int .i64 cc] 40 (0, 0))
  obtain ⟨w3, hw3⟩ : ∃ W, w2.alloc (.cells #[.int .i64 23, .int .i64 (a : Int), .int .i64 (b : Int), .int .i64 cc] 40 (0, 0)) = W := ⟨_, rfl⟩
  rw [hw3] at k2
  have y0 := row_cell (k2.at 3 rfl) 0 (v := .int .i64 23) rfl
  have y1 := row_cell (k2.at 3 rfl) 1 (v := .int .i64 (a : Int)) rfl
  have y2 := row_cell (k2.at 3 rfl) 2 (v := .int .i64 (b : Int)) rfl
  have y3 := row_cell (k2.at 3 rfl) 3 (v := .int .i64 cc) rfl
  have z0 := row_cell (k2.at 1 rfl) 0 (stc_pc _ _ _ _ _ _ _)
  have za := row_cell (k2.at 1 rfl) (1 + a) (stc_get (p : Int) g (.slice A n c) rd out (st + 1) 0 a ha)
  have a0 : (0 : Int) ≤ (a : Int) := by omega
  have a1 : (a : Int) < 16 := by omega
  have m0 : cc % 4294967296 = cc := by omega
  have wp : IntKind.i64.wrap ((p : Int) + 1) = (p : Int) + 1 := by rw [IntKind.wrap_i64]; omega
  have g0 := Lib.hid (k2.at 1 rfl)
  have HK := Lib.hid k2
  have cs := fun w => get_yes (p : Int) g A n c rd out (st + 1) 0 inp a r u w ha (by omega) hz hr HRD.out hu
  have CS := Lib.hid cs
  clear k2 cs hbl
  go_upto_region 48 with fail
  go_wp2_with (first
    | (refine wpList_load_row rfl 30 _ rfl _ rfl 30 _ _ _ g0.out Tryd.underlying30 rfl (infoS2 rfl) ?_)
    | fail)
  refine (CS.out _).mono ?_
  rintro e w2 ⟨rfl, hb⟩
  have kz := HK.out.after hb
  have hz := kz.putRow 2 rfl (.inr (by omega)) (stc ((p : Int) + 1) (gset g a (u.toNat : Int)) (.slice A n c) ((r : Int) + 1) out (st + 1) 0)
  have g1 := Lib.hid (kz.at 2 rfl)
  have g2 := Lib.hid (hz.at 2 rfl)
  have HB := Lib.hid hz.be.plain
  have S1 : Hid ((stc ((p : Int) + 1) (gset g a (u.toNat : Int)) (.slice A n c) ((r : Int) + 1) out (st + 1) 0).all (·.oneCell') = true) := Lib.hid (stc_one _ _ _ _ _ _ _ _ _)
  clear kz hz hb
  go_wp2_with (first
    | (refine wpList_store_rowTo rfl 30 _ _ rfl rfl _ _ rfl rfl 30 _ g1.out (infoS2 rfl) rfl S1.out ?_)
    | fail)
  exact bodyPost_ret (results_cell_row rfl _ _ _ 30 (stc ((p : Int) + 1) (gset g a (u.toNat : Int)) (.slice A n c) ((r : Int) + 1) out (st + 1) 0) _ _ rfl g2.out Tryd.underlying30 rfl (infoS2 rfl)) rfl ⟨rfl, HB.out⟩
set_option maxRecDepth 100000 in
set_option maxHeartbeats 4000000 in
theorem step_chk_yes (p : Nat) (g : Nat → Int) (A : Option Addr) (n c : Nat) (rd : Int) (out : ByteArray) (st : Int) {B : Option Addr} {m k : Nat} {code : List Int} {d : Int} (inp : ByteArray) (v : Int) {a b : Nat} {cc : Int} (w : World) (hc : Rd w B m code) (hm : m ≤ 1073741824) (hp : p < m) (hv : code.getD p 0 = v) (hst : -9223372036854775808 ≤ st ∧ st < 4611686018427387904) (hd : dcd v = #[.int .i64 25, .int .i64 (a : Int), .int .i64 (b : Int), .int .i64 cc]) (hde : dce v = 0) (ha : a < 16) (hb : b < 16) (hcc : 0 ≤ cc ∧ cc ≤ 65535) (hg : g a < cc) :
    Calls Tryd.prog 16 #[.agg #[.slice B m k, .int .i64 d], .string inp, .agg (stc (p : Int) g (.slice A n c) rd out st 0)] w fun e w' => e = .returned (.agg (stc ((p : Int) + 1) g (.slice A n c) rd out (st + 1) 0)) ∧ Below w.heap.size w w' := by
  have hv0 : 0 ≤ v ∧ v < 4294967296 := by rw [← hv]; exact hc.2.2 p
  obtain ⟨bk, off, rfl, hcell⟩ := rd_at9 hc hp
  rw [hv] at hcell
  have hk := (((Kx.nil none w).more (.cells #[.slice (some ⟨bk, off, none⟩) m k, .int .i64 d] 24 (0, 0))).add (w.heap.size + 1) (by simp) (.cells (stc (p : Int) g (.slice A n c) rd out st 0) 30 (0, 0))).add (w.heap.size + 1 + 1) (by simp) (.cells #[.int .i64 0, .int .u32 0, .int .u32 0, .int .u32 0, .int .u32 0, .int .u32 0, .int .u32 0, .int .u32 0, .int .u32 0, .int .u32 0, .int .u32 0, .int .u32 0, .int .u32 0, .int .u32 0, .int .u32 0, .int .u32 0, .int .u32 0, .slice none 0 0, .int .i64 0, .string ⟨#[]⟩, .int .i64 0, .int .i64 0] 30 (0, 0))
  obtain ⟨W0, hW0⟩ : ∃ W, ((w.alloc (.cells #[.slice (some ⟨bk, off, none⟩) m k, .int .i64 d] 24 (0, 0))).alloc (.cells (stc (p : Int) g (.slice A n c) rd out st 0) 30 (0, 0))).alloc (.cells #[.int .i64 0, .int .u32 0, .int .u32 0, .int .u32 0, .int .u32 0, .int .u32 0, .int .u32 0, .int .u32 0, .int .u32 0, .int .u32 0, .int .u32 0, .int .u32 0, .int .u32 0, .int .u32 0, .int .u32 0, .int .u32 0, .int .u32 0, .slice none 0 0, .int .i64 0, .string ⟨#[]⟩, .int .i64 0, .int .i64 0] 30 (0, 0)) = W := ⟨_, rfl⟩
  rw [hW0] at hk
  have ce := row_cell (hk.at 1 rfl) 21 (stc_en _ _ _ _ _ _ _)
  have cp := row_cell (hk.at 1 rfl) 0 (stc_pc _ _ _ _ _ _ _)
  have cm : W0.cell? ⟨w.heap.size, 0, none⟩ = some (.slice (some ⟨bk, off, none⟩) m k) := row_cell (hk.at 0 rfl) 0 rfl
  have cst := row_cell (hk.at 1 rfl) 20 (stc_st _ _ _ _ _ _ _)
  have fst := row_froz (hk.at 1 rfl) 20
  have k1 := hk.putc 1 rfl (.inr (by omega)) 20 (.int .i64 (st + 1)) (set_st _ _ _ _ _ _ _ (st + 1))
  have cp1 := row_cell (k1.at 1 rfl) 0 (stc_pc _ _ _ _ _ _ _)
  have cm1 : (W0.setCell ⟨w.heap.size + 1, 20, none⟩ (.int .i64 (st + 1))).cell? ⟨w.heap.size, 0, none⟩ = some (.slice (some ⟨bk, off, none⟩) m k) := row_cell (k1.at 0 rfl) 0 rfl
  have hb0 : bk < w.heap.size := by
    rcases hc.2.1 with h0 | ⟨b1, o1, e1, hlt, _⟩
    · omega
    · injection e1 with e1
      injection e1 with e1 _ _
      rw [e1]; exact hlt
  have cc1 := (k1.be.plain.cell (p := ⟨bk, off + p, none⟩) hb0).trans hcell
  have p0 : (0 : Int) ≤ (p : Int) := by omega
  have p1 : (p : Int) < (m : Int) := by omega
  have i1 : decide ((p : Int) < 0) = false := decide_eq_false (by omega)
  have i2 : decide ((m : Int) ≤ (p : Int)) = false := decide_eq_false (by omega)
  have w1 : IntKind.i64.wrap (st + 1) = st + 1 := by rw [IntKind.wrap_i64]; omega
  have cd := fun w => decode_ref v w hv0.1 hv0.2
  rw [hd, hde] at cd
  have CD := Lib.hid cd
  have HK1 := Lib.hid k1
  clear cd hk k1 hcell hc hv hv0 hb0
  go_enter Tryd.func16, Tryd.ntmps16
  go_upto_region 6 with fail
  go_wp2_with fail
  refine (CD.out _).mono ?_
  rintro e w2 ⟨rfl, hbl⟩
  have k2 := (HK1.out.after hbl).add w2.heap.size rfl (.cells #[.int .i64 25, .int .i64 (a : Int), .int .i64 (b : Int), .int .i64 cc] 40 (0, 0))
  obtain ⟨w3, hw3⟩ : ∃ W, w2.alloc (.cells #[.int .i64 25, .int .i64 (a : Int), .int .i64 (b : Int), .int .i64 cc] 40 (0, 0)) = W := ⟨_, rfl⟩
  rw [hw3] at k2
  have y0 := row_cell (k2.at 3 rfl) 0 (v := .int .i64 25) rfl
  have y1 := row_cell (k2.at 3 rfl) 1 (v := .int .i64 (a : Int)) rfl
  have y2 := row_cell (k2.at 3 rfl) 2 (v := .int .i64 (b : Int)) rfl
  have y3 := row_cell (k2.at 3 rfl) 3 (v := .int .i64 cc) rfl
  have z0 := row_cell (k2.at 1 rfl) 0 (stc_pc _ _ _ _ _ _ _)
  have za := row_cell (k2.at 1 rfl) (1 + a) (stc_get (p : Int) g (.slice A n c) rd out (st + 1) 0 a ha)
  have a0 : (0 : Int) ≤ (a : Int) := by omega
  have a1 : (a : Int) < 16 := by omega
  have m0 : cc % 4294967296 = cc := by omega
  have wp : IntKind.i64.wrap ((p : Int) + 1) = (p : Int) + 1 := by rw [IntKind.wrap_i64]; omega
  have g0 := Lib.hid (k2.at 1 rfl)
  have HK := Lib.hid k2
  have cs := fun w => jump_ref (p : Int) g A n c rd out (st + 1) 0 ((p : Int) + 1) w
  have CS := Lib.hid cs
  have hq : decide (g a < cc) = true := decide_eq_true hg
  clear hg
  clear k2 cs hbl
  go_upto_region 52 with fail
  go_region
  replace HK := Lib.hid HK.out.drew
  go_upto_region 53 with fail
  go_wp2_with (first
    | (refine wpList_load_row rfl 30 _ rfl _ rfl 30 _ _ _ g0.out Tryd.underlying30 rfl (infoS2 rfl) ?_)
    | fail)
  refine (CS.out _).mono ?_
  rintro e w2 ⟨rfl, hb⟩
  have kz := HK.out.after hb
  have hz := kz.putRow 2 rfl (.inr (by omega)) (stc ((p : Int) + 1) g (.slice A n c) rd out (st + 1) 0)
  have g1 := Lib.hid (kz.at 2 rfl)
  have g2 := Lib.hid (hz.at 2 rfl)
  have HB := Lib.hid hz.be.plain
  have S1 : Hid ((stc ((p : Int) + 1) g (.slice A n c) rd out (st + 1) 0).all (·.oneCell') = true) := Lib.hid (stc_one _ _ _ _ _ _ _ _ _)
  clear kz hz hb
  go_wp2_with (first
    | (refine wpList_store_rowTo rfl 30 _ _ rfl rfl _ _ rfl rfl 30 _ g1.out (infoS2 rfl) rfl S1.out ?_)
    | fail)
  exact bodyPost_ret (results_cell_row rfl _ _ _ 30 (stc ((p : Int) + 1) g (.slice A n c) rd out (st + 1) 0) _ _ rfl g2.out Tryd.underlying30 rfl (infoS2 rfl)) rfl ⟨rfl, HB.out⟩
set_option maxRecDepth 100000 in
set_option maxHeartbeats 4000000 in
theorem step_chk_no (p : Nat) (g : Nat → Int) (A : Option Addr) (n c : Nat) (rd : Int) (out : ByteArray) (st : Int) {B : Option Addr} {m k : Nat} {code : List Int} {d : Int} (inp : ByteArray) (v : Int) {a b : Nat} {cc : Int} (w : World) (hc : Rd w B m code) (hm : m ≤ 1073741824) (hp : p < m) (hv : code.getD p 0 = v) (hst : -9223372036854775808 ≤ st ∧ st < 4611686018427387904) (hd : dcd v = #[.int .i64 25, .int .i64 (a : Int), .int .i64 (b : Int), .int .i64 cc]) (hde : dce v = 0) (ha : a < 16) (hb : b < 16) (hcc : 0 ≤ cc ∧ cc ≤ 65535) (hg : ¬ g a < cc) :
    Calls Tryd.prog 16 #[.agg #[.slice B m k, .int .i64 d], .string inp, .agg (stc (p : Int) g (.slice A n c) rd out st 0)] w fun e w' => e = .returned (.agg (stc (p : Int) g (.slice A n c) rd out (st + 1) 3)) ∧ Below w.heap.size w w' := by
  have hv0 : 0 ≤ v ∧ v < 4294967296 := by rw [← hv]; exact hc.2.2 p
  obtain ⟨bk, off, rfl, hcell⟩ := rd_at9 hc hp
  rw [hv] at hcell
  have hk := (((Kx.nil none w).more (.cells #[.slice (some ⟨bk, off, none⟩) m k, .int .i64 d] 24 (0, 0))).add (w.heap.size + 1) (by simp) (.cells (stc (p : Int) g (.slice A n c) rd out st 0) 30 (0, 0))).add (w.heap.size + 1 + 1) (by simp) (.cells #[.int .i64 0, .int .u32 0, .int .u32 0, .int .u32 0, .int .u32 0, .int .u32 0, .int .u32 0, .int .u32 0, .int .u32 0, .int .u32 0, .int .u32 0, .int .u32 0, .int .u32 0, .int .u32 0, .int .u32 0, .int .u32 0, .int .u32 0, .slice none 0 0, .int .i64 0, .string ⟨#[]⟩, .int .i64 0, .int .i64 0] 30 (0, 0))
  obtain ⟨W0, hW0⟩ : ∃ W, ((w.alloc (.cells #[.slice (some ⟨bk, off, none⟩) m k, .int .i64 d] 24 (0, 0))).alloc (.cells (stc (p : Int) g (.slice A n c) rd out st 0) 30 (0, 0))).alloc (.cells #[.int .i64 0, .int .u32 0, .int .u32 0, .int .u32 0, .int .u32 0, .int .u32 0, .int .u32 0, .int .u32 0, .int .u32 0, .int .u32 0, .int .u32 0, .int .u32 0, .int .u32 0, .int .u32 0, .int .u32 0, .int .u32 0, .int .u32 0, .slice none 0 0, .int .i64 0, .string ⟨#[]⟩, .int .i64 0, .int .i64 0] 30 (0, 0)) = W := ⟨_, rfl⟩
  rw [hW0] at hk
  have ce := row_cell (hk.at 1 rfl) 21 (stc_en _ _ _ _ _ _ _)
  have cp := row_cell (hk.at 1 rfl) 0 (stc_pc _ _ _ _ _ _ _)
  have cm : W0.cell? ⟨w.heap.size, 0, none⟩ = some (.slice (some ⟨bk, off, none⟩) m k) := row_cell (hk.at 0 rfl) 0 rfl
  have cst := row_cell (hk.at 1 rfl) 20 (stc_st _ _ _ _ _ _ _)
  have fst := row_froz (hk.at 1 rfl) 20
  have k1 := hk.putc 1 rfl (.inr (by omega)) 20 (.int .i64 (st + 1)) (set_st _ _ _ _ _ _ _ (st + 1))
  have cp1 := row_cell (k1.at 1 rfl) 0 (stc_pc _ _ _ _ _ _ _)
  have cm1 : (W0.setCell ⟨w.heap.size + 1, 20, none⟩ (.int .i64 (st + 1))).cell? ⟨w.heap.size, 0, none⟩ = some (.slice (some ⟨bk, off, none⟩) m k) := row_cell (k1.at 0 rfl) 0 rfl
  have hb0 : bk < w.heap.size := by
    rcases hc.2.1 with h0 | ⟨b1, o1, e1, hlt, _⟩
    · omega
    · injection e1 with e1
      injection e1 with e1 _ _
      rw [e1]; exact hlt
  have cc1 := (k1.be.plain.cell (p := ⟨bk, off + p, none⟩) hb0).trans hcell
  have p0 : (0 : Int) ≤ (p : Int) := by omega
  have p1 : (p : Int) < (m : Int) := by omega
  have i1 : decide ((p : Int) < 0) = false := decide_eq_false (by omega)
  have i2 : decide ((m : Int) ≤ (p : Int)) = false := decide_eq_false (by omega)
  have w1 : IntKind.i64.wrap (st + 1) = st + 1 := by rw [IntKind.wrap_i64]; omega
  have cd := fun w => decode_ref v w hv0.1 hv0.2
  rw [hd, hde] at cd
  have CD := Lib.hid cd
  have HK1 := Lib.hid k1
  clear cd hk k1 hcell hc hv hv0 hb0
  go_enter Tryd.func16, Tryd.ntmps16
  go_upto_region 6 with fail
  go_wp2_with fail
  refine (CD.out _).mono ?_
  rintro e w2 ⟨rfl, hbl⟩
  have k2 := (HK1.out.after hbl).add w2.heap.size rfl (.cells #[.int .i64 25, .int .i64 (a : Int), .int .i64 (b : Int), .int .i64 cc] 40 (0, 0))
  obtain ⟨w3, hw3⟩ : ∃ W, w2.alloc (.cells #[.int .i64 25, .int .i64 (a : Int), .int .i64 (b : Int), .int .i64 cc] 40 (0, 0)) = W := ⟨_, rfl⟩
  rw [hw3] at k2
  have y0 := row_cell (k2.at 3 rfl) 0 (v := .int .i64 25) rfl
  have y1 := row_cell (k2.at 3 rfl) 1 (v := .int .i64 (a : Int)) rfl
  have y2 := row_cell (k2.at 3 rfl) 2 (v := .int .i64 (b : Int)) rfl
  have y3 := row_cell (k2.at 3 rfl) 3 (v := .int .i64 cc) rfl
  have z0 := row_cell (k2.at 1 rfl) 0 (stc_pc _ _ _ _ _ _ _)
  have za := row_cell (k2.at 1 rfl) (1 + a) (stc_get (p : Int) g (.slice A n c) rd out (st + 1) 0 a ha)
  have a0 : (0 : Int) ≤ (a : Int) := by omega
  have a1 : (a : Int) < 16 := by omega
  have m0 : cc % 4294967296 = cc := by omega
  have wp : IntKind.i64.wrap ((p : Int) + 1) = (p : Int) + 1 := by rw [IntKind.wrap_i64]; omega
  have g0 := Lib.hid (k2.at 1 rfl)
  have HK := Lib.hid k2
  have cs := fun w => ended_ref (p : Int) g A n c rd out (st + 1) 0 3 w
  have CS := Lib.hid cs
  have hq : decide (g a < cc) = false := decide_eq_false (by omega)
  clear hg
  clear k2 cs hbl
  go_upto_region 52 with fail
  go_region
  replace HK := Lib.hid HK.out.drew
  go_upto_region 54 with fail
  go_wp2_with (first
    | (refine wpList_load_row rfl 30 _ rfl _ rfl 30 _ _ _ g0.out Tryd.underlying30 rfl (infoS2 rfl) ?_)
    | fail)
  refine (CS.out _).mono ?_
  rintro e w2 ⟨rfl, hb⟩
  have kz := HK.out.after hb
  have hz := kz.putRow 2 rfl (.inr (by omega)) (stc (p : Int) g (.slice A n c) rd out (st + 1) 3)
  have g1 := Lib.hid (kz.at 2 rfl)
  have g2 := Lib.hid (hz.at 2 rfl)
  have HB := Lib.hid hz.be.plain
  have S1 : Hid ((stc (p : Int) g (.slice A n c) rd out (st + 1) 3).all (·.oneCell') = true) := Lib.hid (stc_one _ _ _ _ _ _ _ _ _)
  clear kz hz hb
  go_wp2_with (first
    | (refine wpList_store_rowTo rfl 30 _ _ rfl rfl _ _ rfl rfl 30 _ g1.out (infoS2 rfl) rfl S1.out ?_)
    | fail)
  exact bodyPost_ret (results_cell_row rfl _ _ _ 30 (stc (p : Int) g (.slice A n c) rd out (st + 1) 3) _ _ rfl g2.out Tryd.underlying30 rfl (infoS2 rfl)) rfl ⟨rfl, HB.out⟩
end Go.Proofs.YtgojpflkhnaedaaDoor
