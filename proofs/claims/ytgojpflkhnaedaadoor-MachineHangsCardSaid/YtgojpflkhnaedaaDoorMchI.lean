/- The reference of layer 9: Step: st, and the operations on two words. -/
import Derived.Test.YtgojpflkhnaedaaDoorMchG
import Derived.Test.YtgojpflkhnaedaaDoorRefC
import Derived.Deep.RegionHeld3
set_option linter.unusedVariables false
namespace Go.Proofs.YtgojpflkhnaedaaDoor
open Go.RowKit

theorem rd_setRow {W : World} {q g n : Nat} {l : List Int} (h : Rd W (some ⟨q, 0, none⟩) n l) (hne : q ≠ g) (cs : Array Value) : Rd (W.setRow g cs) (some ⟨q, 0, none⟩) n l := by
  refine ⟨h.1, ?_, h.2.2⟩
  rcases h.2.1 with h0 | ⟨b, off, e, hlt, hc⟩
  · exact .inl h0
  · refine .inr ⟨b, off, e, by rw [setRow_size]; exact hlt, fun j hj => ?_⟩
    injection e with e
    injection e with e1 e2
    subst e1
    rw [cell_setRow_other _ _ _ _ hne]
    exact hc j hj
theorem all10 {w W : World} {q1 q3 : Nat} {t t2 : TypeId} {x0 x2 : Nat × Obj} {pc rd st en : Int} {g : Nat → Int} {M : Value} {out : ByteArray} {o v1 : Value} {b r : Nat} (h : Kx none w W [x0, (q1, .cells (stc pc g M rd out st en) t (0, 0)), x2, (q3, .cells #[o, v1, .int .i64 (b : Int), .int .i64 (r : Int)] t2 (0, 0))]) (hb : b < 16) (hr : r < 16) :
    W.cell? ⟨q3, 0, none⟩ = some o ∧ W.cell? ⟨q3, 2, none⟩ = some (.int .i64 (b : Int)) ∧ W.cell? ⟨q3, 3, none⟩ = some (.int .i64 (r : Int)) ∧ W.cell? ⟨q1, 1 + b, none⟩ = some (.int .u32 (g b)) ∧ W.cell? ⟨q1, 1 + r, none⟩ = some (.int .u32 (g r)) :=
  ⟨row_cell (h.at 3 rfl) 0 rfl, row_cell (h.at 3 rfl) 2 rfl, row_cell (h.at 3 rfl) 3 rfl, row_cell (h.at 1 rfl) (1 + b) (stc_get _ _ _ _ _ _ _ b hb), row_cell (h.at 1 rfl) (1 + r) (stc_get _ _ _ _ _ _ _ r hr)⟩
set_option maxRecDepth 100000 in
set_option maxHeartbeats 4000000 in
theorem step_st_no (p : Nat) (g : Nat → Int) (A : Option Addr) (n c : Nat) (rd : Int) (out : ByteArray) (st : Int) {B : Option Addr} {m k : Nat} {code : List Int} {d : Int} (inp : ByteArray) (v : Int) {a b : Nat} {cc : Int} (w : World) (hc : Rd w B m code) (hm : m ≤ 1073741824) (hp : p < m) (hv : code.getD p 0 = v) (hst : -9223372036854775808 ≤ st ∧ st < 4611686018427387904) (hd : dcd v = #[.int .i64 17, .int .i64 (a : Int), .int .i64 (b : Int), .int .i64 cc]) (hde : dce v = 0) (ha : a < 16) (hb : b < 16) (hcc : 0 ≤ cc ∧ cc ≤ 65535) (hbv : 0 ≤ g b ∧ g b < 4294967296) (hav : 0 ≤ g a ∧ g a < 4294967296) {l : List Int} (hR : Rd w A n l) (hn : n ≤ 1073741824) (hh : whs l (g b) cc = false) :
    Calls Tryd.prog 16 #[.agg #[.slice B m k, .int .i64 d], .string inp, .agg (stc (p : Int) g (.slice A n c) rd out st 0)] w fun e w' => e = .returned (.agg (stc (p : Int) g (.slice A n c) rd out (st + 1) 8)) ∧ Below w.heap.size w w' := by
  have HR := Lib.hid hR
  have hv0 : 0 ≤ v ∧ v < 4294967296 := by rw [← hv]; exact hc.2.2 p
  obtain ⟨bk, off, rfl, hcell⟩ := rd_at9 hc hp
  rw [hv] at hcell
  have hk := (((Kx.nil none w).more (.cells #[.slice (some ⟨bk, off, none⟩) m k, .int .i64 d] 24 (0, 0))).add (w.heap.size + 1) (by simp) (.cells (stc (p : Int) g (.slice A n c) rd out st 0) 30 (0, 0))).add (w.heap.size + 1 + 1) (by simp) (.cells #[.int .i64 0, .int .u32 0, .int .u32 0, .int .u32 0, .int .u32 0, .int .u32 0, .int .u32 0, .int .u32 0, .int .u32 0, .int .u32 0, .int .u32 0, .int .u32 0, .int .u32 0, .int .u32 0, .int .u32 0, .int .u32 0, .int .u32 0, .slice none 0 0, .int .i64 0, .string ⟨#[]⟩, .int .i64 0, .int .i64 0] 30 (0, 0))
  obtain ⟨W0, hW0⟩ : ∃ W, ((w.alloc (.cells #[.slice (some ⟨bk, off, none⟩) m k, .int .i64 d] 24 (0, 0))).alloc (.cells (stc (p : Int) g (.slice A n c) rd out st 0) 30 (0, 0))).alloc (.cells #[.int .i64 0, .int .u32 0, .int .u32 0, .int .u32 0, .int .u32 0, .int .u32 0, .int .u32 0, .int .u32 0, .int .u32 0, .int .u32 0, .int .u32 0, .int .u32 0, .int .u32 0, .int .u32 0, .int .u32 0, .int .u32 0, .int .u32 0, .slice none 0 0, .int .i64 0, .string ⟨#[]⟩, .int .i64 0, .int .i64 0] 30 (0, 0)) = W := ⟨_, rfl⟩
  rw [hW0] at hk
  have ce := row_cell (hk.at 1 rfl) 21 (stc_en _ _ _ _ _ _ _)
  have cp := row_cell (hk.at 1 rfl) 0 (stc_pc _ _ _ _ _ _ _)
  have cm : W0.cell? ⟨w.heap.size, 0, none⟩ = some (.slice (some ⟨bk, off, none⟩) m k) := row_cell (hk.at 0 rfl) 0 rfl
  have cst := row_cell (hk.at 1 rfl) 20 (stc_st _ _ _ _ _ _ _)
  have fst := row_froz (hk.at 1 rfl) 20
  have k1 := hk.putc 1 rfl (.inr (by omega)) 20 (.int .i64 (st + 1)) (set_st _ _ _ _ _ _ _ (st + 1))
  have cp1 := row_cell (k1.at 1 rfl) 0 (stc_pc _ _ _ _ _ _ _)
  have cm1 : (W0.setCell ⟨w.heap.size + 1, 20, none⟩ (.int .i64 (st + 1))).cell? ⟨w.heap.size, 0, none⟩ = some (.slice (some ⟨bk, off, none⟩) m k) := row_cell (k1.at 0 rfl) 0 rfl
  have hb0 : bk < w.heap.size := by
    rcases hc.2.1 with h0 | ⟨b1, o1, e1, hlt, _⟩
    · omega
    · injection e1 with e1
      injection e1 with e1 _ _
      rw [e1]; exact hlt
  have cc1 := (k1.be.plain.cell (p := ⟨bk, off + p, none⟩) hb0).trans hcell
  have p0 : (0 : Int) ≤ (p : Int) := by omega
  have p1 : (p : Int) < (m : Int) := by omega
  have i1 : decide ((p : Int) < 0) = false := decide_eq_false (by omega)
  have i2 : decide ((m : Int) ≤ (p : Int)) = false := decide_eq_false (by omega)
  have w1 : IntKind.i64.wrap (st + 1) = st + 1 := by rw [IntKind.wrap_i64]; omega
  have cd := fun w => decode_ref v w hv0.1 hv0.2
  rw [hd, hde] at cd
  have CD := Lib.hid cd
  have HK1 := Lib.hid k1
  clear cd hk k1 hcell hc hv hv0 hb0
  go_enter Tryd.func16, Tryd.ntmps16
  go_upto_region 6 with fail
  go_wp2_with fail
  refine (CD.out _).mono ?_
  rintro e w2 ⟨rfl, hbl⟩
  have k2 := (HK1.out.after hbl).add w2.heap.size rfl (.cells #[.int .i64 17, .int .i64 (a : Int), .int .i64 (b : Int), .int .i64 cc] 40 (0, 0))
  obtain ⟨w3, hw3⟩ : ∃ W, w2.alloc (.cells #[.int .i64 17, .int .i64 (a : Int), .int .i64 (b : Int), .int .i64 cc] 40 (0, 0)) = W := ⟨_, rfl⟩
  rw [hw3] at k2
  have y0 := row_cell (k2.at 3 rfl) 0 (v := .int .i64 17) rfl
  have y1 := row_cell (k2.at 3 rfl) 1 (v := .int .i64 (a : Int)) rfl
  have y2 := row_cell (k2.at 3 rfl) 2 (v := .int .i64 (b : Int)) rfl
  have y3 := row_cell (k2.at 3 rfl) 3 (v := .int .i64 cc) rfl
  have z0 := row_cell (k2.at 1 rfl) 0 (stc_pc _ _ _ _ _ _ _)
  have za := row_cell (k2.at 1 rfl) (1 + a) (stc_get (p : Int) g (.slice A n c) rd out (st + 1) 0 a ha)
  have a0 : (0 : Int) ≤ (a : Int) := by omega
  have a1 : (a : Int) < 16 := by omega
  have m0 : cc % 4294967296 = cc := by omega
  have wp : IntKind.i64.wrap ((p : Int) + 1) = (p : Int) + 1 := by rw [IntKind.wrap_i64]; omega
  have g0 := Lib.hid (k2.at 1 rfl)
  have HK := Lib.hid k2
  have cs := fun W (h : Rd W A n l) => store_no (p : Int) g A n c rd out (st + 1) 0 (g b) cc (g a) W h hn hbv hcc hh
  have CS := Lib.hid cs
  have zb := row_cell (k2.at 1 rfl) (1 + b) (stc_get (p : Int) g (.slice A n c) rd out (st + 1) 0 b hb)
  have b0 : (0 : Int) ≤ (b : Int) := by omega
  have b1 : (b : Int) < 16 := by omega
  clear k2 cs hbl
  go_upto_region 32 with fail
  have hlt := HK.out
  refine wp_region_still_tail 13 (by kernel_rfl) (by kernel_rfl) ?_
  simp only [List.take_succ_cons, List.take_zero, List.drop_succ_cons, List.drop_zero]
  repeat (first
    | (refine still_row rfl 30 _ rfl _ rfl 30 _ _ _ g0.out Tryd.underlying30 rfl (infoS2 rfl) ?_)
    | still_step)
  refine wpStill_nil ?_
  clear hlt
  go_wp2_with fail
  refine (CS.out _ (HR.out.below HK.out.drew.be.plain)).mono ?_
  rintro e w2 ⟨rfl, hb⟩
  have kz := HK.out.drew.after hb
  have hz := kz.putRow 2 rfl (.inr (by omega)) (stc (p : Int) g (.slice A n c) rd out (st + 1) 8)
  have g1 := Lib.hid (kz.at 2 rfl)
  have g2 := Lib.hid (hz.at 2 rfl)
  have HB := Lib.hid hz.be.plain
  have S1 : Hid ((stc (p : Int) g (.slice A n c) rd out (st + 1) 8).all (·.oneCell') = true) := Lib.hid (stc_one _ _ _ _ _ _ _ _ _)
  clear kz hz hb
  go_wp2_with (first
    | (refine wpList_store_rowTo rfl 30 _ _ rfl rfl _ _ rfl rfl 30 _ g1.out (infoS2 rfl) rfl S1.out ?_)
    | fail)
  exact bodyPost_ret (results_cell_row rfl _ _ _ 30 (stc (p : Int) g (.slice A n c) rd out (st + 1) 8) _ _ rfl g2.out Tryd.underlying30 rfl (infoS2 rfl)) rfl ⟨rfl, HB.out⟩
set_option maxRecDepth 100000 in
set_option maxHeartbeats 4000000 in
theorem step_st_yes (p : Nat) (g : Nat → Int) (A : Option Addr) (n c : Nat) (rd : Int) (out : ByteArray) (st : Int) {B : Option Addr} {m k : Nat} {code : List Int} {d : Int} (inp : ByteArray) (v : Int) {a b : Nat} {cc : Int} (w : World) (hc : Rd w B m code) (hm : m ≤ 1073741824) (hp : p < m) (hv : code.getD p 0 = v) (hst : -9223372036854775808 ≤ st ∧ st < 4611686018427387904) (hd : dcd v = #[.int .i64 17, .int .i64 (a : Int), .int .i64 (b : Int), .int .i64 cc]) (hde : dce v = 0) (ha : a < 16) (hb : b < 16) (hcc : 0 ≤ cc ∧ cc ≤ 65535) (hbv : 0 ≤ g b ∧ g b < 4294967296) (hav : 0 ≤ g a ∧ g a < 4294967296) {l : List Int} (hR : Rd w A n l) (hn : n ≤ 1073741824) (hw : W32s l) (hh : whs l (g b) cc = true) :
    Calls Tryd.prog 16 #[.agg #[.slice B m k, .int .i64 d], .string inp, .agg (stc (p : Int) g (.slice A n c) rd out st 0)] w fun e w' => ∃ q cap, w.heap.size ≤ q ∧ e = .returned (.agg (stc ((p : Int) + 1) g (.slice (some ⟨q, 0, none⟩) n cap) rd out (st + 1) 0)) ∧ Rd w' (some ⟨q, 0, none⟩) n (l.set (wat (g b) cc).toNat (g a)) ∧ n ≤ cap ∧ cap ≤ maxLen ∧ Below w.heap.size w w' := by
  have HR := Lib.hid hR
  have HW := Lib.hid hw
  have hv0 : 0 ≤ v ∧ v < 4294967296 := by rw [← hv]; exact hc.2.2 p
  obtain ⟨bk, off, rfl, hcell⟩ := rd_at9 hc hp
  rw [hv] at hcell
  have hk := (((Kx.nil none w).more (.cells #[.slice (some ⟨bk, off, none⟩) m k, .int .i64 d] 24 (0, 0))).add (w.heap.size + 1) (by simp) (.cells (stc (p : Int) g (.slice A n c) rd out st 0) 30 (0, 0))).add (w.heap.size + 1 + 1) (by simp) (.cells #[.int .i64 0, .int .u32 0, .int .u32 0, .int .u32 0, .int .u32 0, .int .u32 0, .int .u32 0, .int .u32 0, .int .u32 0, .int .u32 0, .int .u32 0, .int .u32 0, .int .u32 0, .int .u32 0, .int .u32 0, .int .u32 0, .int .u32 0, .slice none 0 0, .int .i64 0, .string ⟨#[]⟩, .int .i64 0, .int .i64 0] 30 (0, 0))
  obtain ⟨W0, hW0⟩ : ∃ W, ((w.alloc (.cells #[.slice (some ⟨bk, off, none⟩) m k, .int .i64 d] 24 (0, 0))).alloc (.cells (stc (p : Int) g (.slice A n c) rd out st 0) 30 (0, 0))).alloc (.cells #[.int .i64 0, .int .u32 0, .int .u32 0, .int .u32 0, .int .u32 0, .int .u32 0, .int .u32 0, .int .u32 0, .int .u32 0, .int .u32 0, .int .u32 0, .int .u32 0, .int .u32 0, .int .u32 0, .int .u32 0, .int .u32 0, .int .u32 0, .slice none 0 0, .int .i64 0, .string ⟨#[]⟩, .int .i64 0, .int .i64 0] 30 (0, 0)) = W := ⟨_, rfl⟩
  rw [hW0] at hk
  have ce := row_cell (hk.at 1 rfl) 21 (stc_en _ _ _ _ _ _ _)
  have cp := row_cell (hk.at 1 rfl) 0 (stc_pc _ _ _ _ _ _ _)
  have cm : W0.cell? ⟨w.heap.size, 0, none⟩ = some (.slice (some ⟨bk, off, none⟩) m k) := row_cell (hk.at 0 rfl) 0 rfl
  have cst := row_cell (hk.at 1 rfl) 20 (stc_st _ _ _ _ _ _ _)
  have fst := row_froz (hk.at 1 rfl) 20
  have k1 := hk.putc 1 rfl (.inr (by omega)) 20 (.int .i64 (st + 1)) (set_st _ _ _ _ _ _ _ (st + 1))
  have cp1 := row_cell (k1.at 1 rfl) 0 (stc_pc _ _ _ _ _ _ _)
  have cm1 : (W0.setCell ⟨w.heap.size + 1, 20, none⟩ (.int .i64 (st + 1))).cell? ⟨w.heap.size, 0, none⟩ = some (.slice (some ⟨bk, off, none⟩) m k) := row_cell (k1.at 0 rfl) 0 rfl
  have hb0 : bk < w.heap.size := by
    rcases hc.2.1 with h0 | ⟨b1, o1, e1, hlt, _⟩
    · omega
    · injection e1 with e1
      injection e1 with e1 _ _
      rw [e1]; exact hlt
  have cc1 := (k1.be.plain.cell (p := ⟨bk, off + p, none⟩) hb0).trans hcell
  have p0 : (0 : Int) ≤ (p : Int) := by omega
  have p1 : (p : Int) < (m : Int) := by omega
  have i1 : decide ((p : Int) < 0) = false := decide_eq_false (by omega)
  have i2 : decide ((m : Int) ≤ (p : Int)) = false := decide_eq_false (by omega)
  have w1 : IntKind.i64.wrap (st + 1) = st + 1 := by rw [IntKind.wrap_i64]; omega
  have cd := fun w => decode_ref v w hv0.1 hv0.2
  rw [hd, hde] at cd
  have CD := Lib.hid cd
  have HK1 := Lib.hid k1
  clear cd hk k1 hcell hc hv hv0 hb0
  go_enter Tryd.func16, Tryd.ntmps16
  go_upto_region 6 with fail
  go_wp2_with fail
  refine (CD.out _).mono ?_
  rintro e w2 ⟨rfl, hbl⟩
  have k2 := (HK1.out.after hbl).add w2.heap.size rfl (.cells #[.int .i64 17, .int .i64 (a : Int), .int .i64 (b : Int), .int .i64 cc] 40 (0, 0))
  obtain ⟨w3, hw3⟩ : ∃ W, w2.alloc (.cells #[.int .i64 17, .int .i64 (a : Int), .int .i64 (b : Int), .int .i64 cc] 40 (0, 0)) = W := ⟨_, rfl⟩
  rw [hw3] at k2
  have y0 := row_cell (k2.at 3 rfl) 0 (v := .int .i64 17) rfl
  have y1 := row_cell (k2.at 3 rfl) 1 (v := .int .i64 (a : Int)) rfl
  have y2 := row_cell (k2.at 3 rfl) 2 (v := .int .i64 (b : Int)) rfl
  have y3 := row_cell (k2.at 3 rfl) 3 (v := .int .i64 cc) rfl
  have z0 := row_cell (k2.at 1 rfl) 0 (stc_pc _ _ _ _ _ _ _)
  have za := row_cell (k2.at 1 rfl) (1 + a) (stc_get (p : Int) g (.slice A n c) rd out (st + 1) 0 a ha)
  have a0 : (0 : Int) ≤ (a : Int) := by omega
  have a1 : (a : Int) < 16 := by omega
  have m0 : cc % 4294967296 = cc := by omega
  have wp : IntKind.i64.wrap ((p : Int) + 1) = (p : Int) + 1 := by rw [IntKind.wrap_i64]; omega
  have g0 := Lib.hid (k2.at 1 rfl)
  have HK := Lib.hid k2
  have cs := fun W (h : Rd W A n l) => store_yes (p : Int) g A n c rd out (st + 1) 0 (g b) cc (g a) W h hn hbv hcc hw hav (by omega) hh
  have CS := Lib.hid cs
  have zb := row_cell (k2.at 1 rfl) (1 + b) (stc_get (p : Int) g (.slice A n c) rd out (st + 1) 0 b hb)
  have b0 : (0 : Int) ≤ (b : Int) := by omega
  have b1 : (b : Int) < 16 := by omega
  clear k2 cs hbl
  go_upto_region 32 with fail
  have hlt := HK.out
  refine wp_region_still_tail 13 (by kernel_rfl) (by kernel_rfl) ?_
  simp only [List.take_succ_cons, List.take_zero, List.drop_succ_cons, List.drop_zero]
  repeat (first
    | (refine still_row rfl 30 _ rfl _ rfl 30 _ _ _ g0.out Tryd.underlying30 rfl (infoS2 rfl) ?_)
    | still_step)
  refine wpStill_nil ?_
  clear hlt
  go_wp2_with fail
  refine (CS.out _ (HR.out.below HK.out.drew.be.plain)).mono ?_
  rintro e w2 ⟨q, cap, hq, rfl, hrd, hn2, hc2, hb⟩
  have kz := HK.out.drew.after hb
  have hz := kz.putRow 2 rfl (.inr (by omega)) (stc ((p : Int) + 1) g (.slice (some ⟨q, 0, none⟩) n cap) rd out (st + 1) 0)
  have g1 := Lib.hid (kz.at 2 rfl)
  have g2 := Lib.hid (hz.at 2 rfl)
  have HB := Lib.hid hz.be.plain
  have S1 : Hid ((stc ((p : Int) + 1) g (.slice (some ⟨q, 0, none⟩) n cap) rd out (st + 1) 0).all (·.oneCell') = true) := Lib.hid (stc_one _ _ _ _ _ _ _ _ _)
  have hlt2 : w.heap.size + 1 + 1 < w3.heap.size := HK.out.lt 2 rfl
  have hqw : w.heap.size ≤ q := Nat.le_trans HK.out.drew.be.size hq
  have hrd2 := Lib.hid (rd_setRow hrd (g := w.heap.size + 1 + 1) (by have : w3.heap.size ≤ q := hq; omega) (stc ((p : Int) + 1) g (.slice (some ⟨q, 0, none⟩) n cap) rd out (st + 1) 0))
  clear kz hz hb hrd hlt2
  go_wp2_with (first
    | (refine wpList_store_rowTo rfl 30 _ _ rfl rfl _ _ rfl rfl 30 _ g1.out (infoS2 rfl) rfl S1.out ?_)
    | fail)
  exact bodyPost_ret (results_cell_row rfl _ _ _ 30 (stc ((p : Int) + 1) g (.slice (some ⟨q, 0, none⟩) n cap) rd out (st + 1) 0) _ _ rfl g2.out Tryd.underlying30 rfl (infoS2 rfl)) rfl ⟨q, cap, hqw, rfl, hrd2.out, hn2, hc2, HB.out⟩
set_option maxRecDepth 100000 in
set_option maxHeartbeats 4000000 in
theorem step_ap_ok (p : Nat) (g : Nat → Int) (A : Option Addr) (n c : Nat) (rd : Int) (out : ByteArray) (st : Int) {B : Option Addr} {m k : Nat} {code : List Int} {d : Int} (inp : ByteArray) (v : Int) {a b r : Nat} {o : Int} (w : World) (hc : Rd w B m code) (hm : m ≤ 1073741824) (hp : p < m) (hv : code.getD p 0 = v) (hst : -9223372036854775808 ≤ st ∧ st < 4611686018427387904) (hd : dcd v = #[.int .i64 o, .int .i64 (a : Int), .int .i64 (b : Int), .int .i64 (r : Int)]) (hde : dce v = 0) (ha : a < 16) (hb : b < 16) (hcc : 0 ≤ (r : Int) ∧ (r : Int) ≤ 65535) (ho : 4 ≤ o ∧ o ≤ 15) (hr16 : r < 16) (hbv : 0 ≤ g b ∧ g b < 4294967296) (hrv : 0 ≤ g r ∧ g r < 4294967296) (hz : er o (g r) = 0) :
    Calls Tryd.prog 16 #[.agg #[.slice B m k, .int .i64 d], .string inp, .agg (stc (p : Int) g (.slice A n c) rd out st 0)] w fun e w' => e = .returned (.agg (stc ((p : Int) + 1) (gset g a (ap o (g b) (g r))) (.slice A n c) rd out (st + 1) 0)) ∧ Below w.heap.size w w' := by
  have hv0 : 0 ≤ v ∧ v < 4294967296 := by rw [← hv]; exact hc.2.2 p
  obtain ⟨bk, off, rfl, hcell⟩ := rd_at9 hc hp
  rw [hv] at hcell
  have hk := (((Kx.nil none w).more (.cells #[.slice (some ⟨bk, off, none⟩) m k, .int .i64 d] 24 (0, 0))).add (w.heap.size + 1) (by simp) (.cells (stc (p : Int) g (.slice A n c) rd out st 0) 30 (0, 0))).add (w.heap.size + 1 + 1) (by simp) (.cells #[.int .i64 0, .int .u32 0, .int .u32 0, .int .u32 0, .int .u32 0, .int .u32 0, .int .u32 0, .int .u32 0, .int .u32 0, .int .u32 0, .int .u32 0, .int .u32 0, .int .u32 0, .int .u32 0, .int .u32 0, .int .u32 0, .int .u32 0, .slice none 0 0, .int .i64 0, .string ⟨#[]⟩, .int .i64 0, .int .i64 0] 30 (0, 0))
  obtain ⟨W0, hW0⟩ : ∃ W, ((w.alloc (.cells #[.slice (some ⟨bk, off, none⟩) m k, .int .i64 d] 24 (0, 0))).alloc (.cells (stc (p : Int) g (.slice A n c) rd out st 0) 30 (0, 0))).alloc (.cells #[.int .i64 0, .int .u32 0, .int .u32 0, .int .u32 0, .int .u32 0, .int .u32 0, .int .u32 0, .int .u32 0, .int .u32 0, .int .u32 0, .int .u32 0, .int .u32 0, .int .u32 0, .int .u32 0, .int .u32 0, .int .u32 0, .int .u32 0, .slice none 0 0, .int .i64 0, .string ⟨#[]⟩, .int .i64 0, .int .i64 0] 30 (0, 0)) = W := ⟨_, rfl⟩
  rw [hW0] at hk
  have ce := row_cell (hk.at 1 rfl) 21 (stc_en _ _ _ _ _ _ _)
  have cp := row_cell (hk.at 1 rfl) 0 (stc_pc _ _ _ _ _ _ _)
  have cm : W0.cell? ⟨w.heap.size, 0, none⟩ = some (.slice (some ⟨bk, off, none⟩) m k) := row_cell (hk.at 0 rfl) 0 rfl
  have cst := row_cell (hk.at 1 rfl) 20 (stc_st _ _ _ _ _ _ _)
  have fst := row_froz (hk.at 1 rfl) 20
  have k1 := hk.putc 1 rfl (.inr (by omega)) 20 (.int .i64 (st + 1)) (set_st _ _ _ _ _ _ _ (st + 1))
  have cp1 := row_cell (k1.at 1 rfl) 0 (stc_pc _ _ _ _ _ _ _)
  have cm1 : (W0.setCell ⟨w.heap.size + 1, 20, none⟩ (.int .i64 (st + 1))).cell? ⟨w.heap.size, 0, none⟩ = some (.slice (some ⟨bk, off, none⟩) m k) := row_cell (k1.at 0 rfl) 0 rfl
  have hb0 : bk < w.heap.size := by
    rcases hc.2.1 with h0 | ⟨b1, o1, e1, hlt, _⟩
    · omega
    · injection e1 with e1
      injection e1 with e1 _ _
      rw [e1]; exact hlt
  have cc1 := (k1.be.plain.cell (p := ⟨bk, off + p, none⟩) hb0).trans hcell
  have p0 : (0 : Int) ≤ (p : Int) := by omega
  have p1 : (p : Int) < (m : Int) := by omega
  have i1 : decide ((p : Int) < 0) = false := decide_eq_false (by omega)
  have i2 : decide ((m : Int) ≤ (p : Int)) = false := decide_eq_false (by omega)
  have w1 : IntKind.i64.wrap (st + 1) = st + 1 := by rw [IntKind.wrap_i64]; omega
  have cd := fun w => decode_ref v w hv0.1 hv0.2
  rw [hd, hde] at cd
  have CD := Lib.hid cd
  have HK1 := Lib.hid k1
  clear cd hk k1 hcell hc hv hv0 hb0
  go_enter Tryd.func16, Tryd.ntmps16
  go_upto_region 6 with fail
  go_wp2_with fail
  refine (CD.out _).mono ?_
  rintro e w2 ⟨rfl, hbl⟩
  have k2 := (HK1.out.after hbl).add w2.heap.size rfl (.cells #[.int .i64 o, .int .i64 (a : Int), .int .i64 (b : Int), .int .i64 (r : Int)] 40 (0, 0))
  obtain ⟨w3, hw3⟩ : ∃ W, w2.alloc (.cells #[.int .i64 o, .int .i64 (a : Int), .int .i64 (b : Int), .int .i64 (r : Int)] 40 (0, 0)) = W := ⟨_, rfl⟩
  rw [hw3] at k2
  have y0 := row_cell (k2.at 3 rfl) 0 (v := .int .i64 o) rfl
  have y1 := row_cell (k2.at 3 rfl) 1 (v := .int .i64 (a : Int)) rfl
  have y2 := row_cell (k2.at 3 rfl) 2 (v := .int .i64 (b : Int)) rfl
  have y3 := row_cell (k2.at 3 rfl) 3 (v := .int .i64 (r : Int)) rfl
  have z0 := row_cell (k2.at 1 rfl) 0 (stc_pc _ _ _ _ _ _ _)
  have za := row_cell (k2.at 1 rfl) (1 + a) (stc_get (p : Int) g (.slice A n c) rd out (st + 1) 0 a ha)
  have a0 : (0 : Int) ≤ (a : Int) := by omega
  have a1 : (a : Int) < 16 := by omega
  have m0 : (r : Int) % 4294967296 = (r : Int) := by omega
  have wp : IntKind.i64.wrap ((p : Int) + 1) = (p : Int) + 1 := by rw [IntKind.wrap_i64]; omega
  have g0 := Lib.hid (k2.at 1 rfl)
  have HK := Lib.hid k2
  have cs := fun w => set_ref (p : Int) g A n c rd out (st + 1) 0 a (ap o (g b) (g r)) w ha (by omega)
  have CS := Lib.hid cs
  have zb := row_cell (k2.at 1 rfl) (1 + b) (stc_get (p : Int) g (.slice A n c) rd out (st + 1) 0 b hb)
  have b0 : (0 : Int) ≤ (b : Int) := by omega
  have b1 : (b : Int) < 16 := by omega
  have zr := row_cell (k2.at 1 rfl) (1 + r) (stc_get (p : Int) g (.slice A n c) rd out (st + 1) 0 r hr16)
  have r0 : (0 : Int) ≤ (r : Int) := by omega
  have r1 : (r : Int) < 16 := by omega
  have o4 : (4 : Int) ≤ o := ho.1
  have o15 : o ≤ (15 : Int) := ho.2
  have ca := fun w => ref_any o (g b) (g r) w hbv.1 hbv.2 hrv.1 hrv.2
  rw [hz] at ca
  have CA := Lib.hid ca
  clear ca
  clear k2 cs hbl
  go_upto_region 10 with fail
  go_region_held3 (fun W => W.cell? ⟨w2.heap.size, 0, none⟩ = some (.int .i64 o) ∧ W.cell? ⟨w2.heap.size, 2, none⟩ = some (.int .i64 (b : Int)) ∧ W.cell? ⟨w2.heap.size, 3, none⟩ = some (.int .i64 (r : Int)) ∧ W.cell? ⟨w.heap.size + 1, 1 + b, none⟩ = some (.int .u32 (g b)) ∧ W.cell? ⟨w.heap.size + 1, 1 + r, none⟩ = some (.int .u32 (g r)))
    (first | exact all10 HK.out.drew hb hr16 | exact all10 HK.out hb hr16)
    (first
      | (go_at_call 25; with_reducible refine (CA.out _).mono ?_; rintro e w4 ⟨rfl, hb4⟩; replace HK := Lib.hid (HK.out.drew.after hb4); clear hb4)
      | fail)
  clear y0 y2 y3 z0 za zb zr
  replace y1 := row_cell (HK.out.at 3 rfl) 1 (v := .int .i64 (a : Int)) rfl
  replace g0 := Lib.hid (HK.out.at 1 rfl)
  go_upto_region 13 with fail
  go_wp2_with (first
    | (refine wpList_load_row rfl 30 _ rfl _ rfl 30 _ _ _ g0.out Tryd.underlying30 rfl (infoS2 rfl) ?_)
    | fail)
  refine (CS.out _).mono ?_
  rintro e w2 ⟨rfl, hb⟩
  have kz := HK.out.after hb
  have hz := kz.putRow 2 rfl (.inr (by omega)) (stc ((p : Int) + 1) (gset g a (ap o (g b) (g r))) (.slice A n c) rd out (st + 1) 0)
  have g1 := Lib.hid (kz.at 2 rfl)
  have g2 := Lib.hid (hz.at 2 rfl)
  have HB := Lib.hid hz.be.plain
  have S1 : Hid ((stc ((p : Int) + 1) (gset g a (ap o (g b) (g r))) (.slice A n c) rd out (st + 1) 0).all (·.oneCell') = true) := Lib.hid (stc_one _ _ _ _ _ _ _ _ _)
  clear kz hz hb
  go_wp2_with (first
    | (refine wpList_store_rowTo rfl 30 _ _ rfl rfl _ _ rfl rfl 30 _ g1.out (infoS2 rfl) rfl S1.out ?_)
    | fail)
  exact bodyPost_ret (results_cell_row rfl _ _ _ 30 (stc ((p : Int) + 1) (gset g a (ap o (g b) (g r))) (.slice A n c) rd out (st + 1) 0) _ _ rfl g2.out Tryd.underlying30 rfl (infoS2 rfl)) rfl ⟨rfl, HB.out⟩
set_option maxRecDepth 100000 in
set_option maxHeartbeats 4000000 in
theorem step_ap_zero (p : Nat) (g : Nat → Int) (A : Option Addr) (n c : Nat) (rd : Int) (out : ByteArray) (st : Int) {B : Option Addr} {m k : Nat} {code : List Int} {d : Int} (inp : ByteArray) (v : Int) {a b r : Nat} {o : Int} (w : World) (hc : Rd w B m code) (hm : m ≤ 1073741824) (hp : p < m) (hv : code.getD p 0 = v) (hst : -9223372036854775808 ≤ st ∧ st < 4611686018427387904) (hd : dcd v = #[.int .i64 o, .int .i64 (a : Int), .int .i64 (b : Int), .int .i64 (r : Int)]) (hde : dce v = 0) (ha : a < 16) (hb : b < 16) (hcc : 0 ≤ (r : Int) ∧ (r : Int) ≤ 65535) (ho : 4 ≤ o ∧ o ≤ 15) (hr16 : r < 16) (hbv : 0 ≤ g b ∧ g b < 4294967296) (hrv : 0 ≤ g r ∧ g r < 4294967296) (hz : er o (g r) = 14) :
    Calls Tryd.prog 16 #[.agg #[.slice B m k, .int .i64 d], .string inp, .agg (stc (p : Int) g (.slice A n c) rd out st 0)] w fun e w' => e = .returned (.agg (stc (p : Int) g (.slice A n c) rd out (st + 1) 2)) ∧ Below w.heap.size w w' := by
  have hv0 : 0 ≤ v ∧ v < 4294967296 := by rw [← hv]; exact hc.2.2 p
  obtain ⟨bk, off, rfl, hcell⟩ := rd_at9 hc hp
  rw [hv] at hcell
  have hk := (((Kx.nil none w).more (.cells #[.slice (some ⟨bk, off, none⟩) m k, .int .i64 d] 24 (0, 0))).add (w.heap.size + 1) (by simp) (.cells (stc (p : Int) g (.slice A n c) rd out st 0) 30 (0, 0))).add (w.heap.size + 1 + 1) (by simp) (.cells #[.int .i64 0, .int .u32 0, .int .u32 0, .int .u32 0, .int .u32 0, .int .u32 0, .int .u32 0, .int .u32 0, .int .u32 0, .int .u32 0, .int .u32 0, .int .u32 0, .int .u32 0, .int .u32 0, .int .u32 0, .int .u32 0, .int .u32 0, .slice none 0 0, .int .i64 0, .string ⟨#[]⟩, .int .i64 0, .int .i64 0] 30 (0, 0))
  obtain ⟨W0, hW0⟩ : ∃ W, ((w.alloc (.cells #[.slice (some ⟨bk, off, none⟩) m k, .int .i64 d] 24 (0, 0))).alloc (.cells (stc (p : Int) g (.slice A n c) rd out st 0) 30 (0, 0))).alloc (.cells #[.int .i64 0, .int .u32 0, .int .u32 0, .int .u32 0, .int .u32 0, .int .u32 0, .int .u32 0, .int .u32 0, .int .u32 0, .int .u32 0, .int .u32 0, .int .u32 0, .int .u32 0, .int .u32 0, .int .u32 0, .int .u32 0, .int .u32 0, .slice none 0 0, .int .i64 0, .string ⟨#[]⟩, .int .i64 0, .int .i64 0] 30 (0, 0)) = W := ⟨_, rfl⟩
  rw [hW0] at hk
  have ce := row_cell (hk.at 1 rfl) 21 (stc_en _ _ _ _ _ _ _)
  have cp := row_cell (hk.at 1 rfl) 0 (stc_pc _ _ _ _ _ _ _)
  have cm : W0.cell? ⟨w.heap.size, 0, none⟩ = some (.slice (some ⟨bk, off, none⟩) m k) := row_cell (hk.at 0 rfl) 0 rfl
  have cst := row_cell (hk.at 1 rfl) 20 (stc_st _ _ _ _ _ _ _)
  have fst := row_froz (hk.at 1 rfl) 20
  have k1 := hk.putc 1 rfl (.inr (by omega)) 20 (.int .i64 (st + 1)) (set_st _ _ _ _ _ _ _ (st + 1))
  have cp1 := row_cell (k1.at 1 rfl) 0 (stc_pc _ _ _ _ _ _ _)
  have cm1 : (W0.setCell ⟨w.heap.size + 1, 20, none⟩ (.int .i64 (st + 1))).cell? ⟨w.heap.size, 0, none⟩ = some (.slice (some ⟨bk, off, none⟩) m k) := row_cell (k1.at 0 rfl) 0 rfl
  have hb0 : bk < w.heap.size := by
    rcases hc.2.1 with h0 | ⟨b1, o1, e1, hlt, _⟩
    · omega
    · injection e1 with e1
      injection e1 with e1 _ _
      rw [e1]; exact hlt
  have cc1 := (k1.be.plain.cell (p := ⟨bk, off + p, none⟩) hb0).trans hcell
  have p0 : (0 : Int) ≤ (p : Int) := by omega
  have p1 : (p : Int) < (m : Int) := by omega
  have i1 : decide ((p : Int) < 0) = false := decide_eq_false (by omega)
  have i2 : decide ((m : Int) ≤ (p : Int)) = false := decide_eq_false (by omega)
  have w1 : IntKind.i64.wrap (st + 1) = st + 1 := by rw [IntKind.wrap_i64]; omega
  have cd := fun w => decode_ref v w hv0.1 hv0.2
  rw [hd, hde] at cd
  have CD := Lib.hid cd
  have HK1 := Lib.hid k1
  clear cd hk k1 hcell hc hv hv0 hb0
  go_enter Tryd.func16, Tryd.ntmps16
  go_upto_region 6 with fail
  go_wp2_with fail
  refine (CD.out _).mono ?_
  rintro e w2 ⟨rfl, hbl⟩
  have k2 := (HK1.out.after hbl).add w2.heap.size rfl (.cells #[.int .i64 o, .int .i64 (a : Int), .int .i64 (b : Int), .int .i64 (r : Int)] 40 (0, 0))
  obtain ⟨w3, hw3⟩ : ∃ W, w2.alloc (.cells #[.int .i64 o, .int .i64 (a : Int), .int .i64 (b : Int), .int .i64 (r : Int)] 40 (0, 0)) = W := ⟨_, rfl⟩
  rw [hw3] at k2
  have y0 := row_cell (k2.at 3 rfl) 0 (v := .int .i64 o) rfl
  have y1 := row_cell (k2.at 3 rfl) 1 (v := .int .i64 (a : Int)) rfl
  have y2 := row_cell (k2.at 3 rfl) 2 (v := .int .i64 (b : Int)) rfl
  have y3 := row_cell (k2.at 3 rfl) 3 (v := .int .i64 (r : Int)) rfl
  have z0 := row_cell (k2.at 1 rfl) 0 (stc_pc _ _ _ _ _ _ _)
  have za := row_cell (k2.at 1 rfl) (1 + a) (stc_get (p : Int) g (.slice A n c) rd out (st + 1) 0 a ha)
  have a0 : (0 : Int) ≤ (a : Int) := by omega
  have a1 : (a : Int) < 16 := by omega
  have m0 : (r : Int) % 4294967296 = (r : Int) := by omega
  have wp : IntKind.i64.wrap ((p : Int) + 1) = (p : Int) + 1 := by rw [IntKind.wrap_i64]; omega
  have g0 := Lib.hid (k2.at 1 rfl)
  have HK := Lib.hid k2
  have cs := fun w => ended_ref (p : Int) g A n c rd out (st + 1) 0 2 w
  have CS := Lib.hid cs
  have zb := row_cell (k2.at 1 rfl) (1 + b) (stc_get (p : Int) g (.slice A n c) rd out (st + 1) 0 b hb)
  have b0 : (0 : Int) ≤ (b : Int) := by omega
  have b1 : (b : Int) < 16 := by omega
  have zr := row_cell (k2.at 1 rfl) (1 + r) (stc_get (p : Int) g (.slice A n c) rd out (st + 1) 0 r hr16)
  have r0 : (0 : Int) ≤ (r : Int) := by omega
  have r1 : (r : Int) < 16 := by omega
  have o4 : (4 : Int) ≤ o := ho.1
  have o15 : o ≤ (15 : Int) := ho.2
  have ca := fun w => ref_any o (g b) (g r) w hbv.1 hbv.2 hrv.1 hrv.2
  rw [hz] at ca
  have CA := Lib.hid ca
  clear ca
  clear k2 cs hbl
  go_upto_region 10 with fail
  go_region_held3 (fun W => W.cell? ⟨w2.heap.size, 0, none⟩ = some (.int .i64 o) ∧ W.cell? ⟨w2.heap.size, 2, none⟩ = some (.int .i64 (b : Int)) ∧ W.cell? ⟨w2.heap.size, 3, none⟩ = some (.int .i64 (r : Int)) ∧ W.cell? ⟨w.heap.size + 1, 1 + b, none⟩ = some (.int .u32 (g b)) ∧ W.cell? ⟨w.heap.size + 1, 1 + r, none⟩ = some (.int .u32 (g r)))
    (first | exact all10 HK.out.drew hb hr16 | exact all10 HK.out hb hr16)
    (first
      | (go_at_call 25; with_reducible refine (CA.out _).mono ?_; rintro e w4 ⟨rfl, hb4⟩; replace HK := Lib.hid (HK.out.drew.after hb4); clear hb4)
      | fail)
  clear y0 y2 y3 z0 za zb zr
  replace y1 := row_cell (HK.out.at 3 rfl) 1 (v := .int .i64 (a : Int)) rfl
  replace g0 := Lib.hid (HK.out.at 1 rfl)
  go_upto_region 12 with fail
  go_wp2_with (first
    | (refine wpList_load_row rfl 30 _ rfl _ rfl 30 _ _ _ g0.out Tryd.underlying30 rfl (infoS2 rfl) ?_)
    | fail)
  refine (CS.out _).mono ?_
  rintro e w2 ⟨rfl, hb⟩
  have kz := HK.out.after hb
  have hz := kz.putRow 2 rfl (.inr (by omega)) (stc (p : Int) g (.slice A n c) rd out (st + 1) 2)
  have g1 := Lib.hid (kz.at 2 rfl)
  have g2 := Lib.hid (hz.at 2 rfl)
  have HB := Lib.hid hz.be.plain
  have S1 : Hid ((stc (p : Int) g (.slice A n c) rd out (st + 1) 2).all (·.oneCell') = true) := Lib.hid (stc_one _ _ _ _ _ _ _ _ _)
  clear kz hz hb
  go_wp2_with (first
    | (refine wpList_store_rowTo rfl 30 _ _ rfl rfl _ _ rfl rfl 30 _ g1.out (infoS2 rfl) rfl S1.out ?_)
    | fail)
  exact bodyPost_ret (results_cell_row rfl _ _ _ 30 (stc (p : Int) g (.slice A n c) rd out (st + 1) 2) _ _ rfl g2.out Tryd.underlying30 rfl (infoS2 rfl)) rfl ⟨rfl, HB.out⟩
end Go.Proofs.YtgojpflkhnaedaaDoor
