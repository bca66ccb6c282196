/- Layer 9: the contracts of the landed Start, Step and Same (machine). -/
import Derived.Test.YtgojpflkhnaedaaDoorMcsH
import Derived.Test.YtgojpflkhnaedaaDoorMchK
import Derived.Test.YtgojpflkhnaedaaDoorMchL
import Derived.Test.YtgojpflkhnaedaaDoorTab
import Derived.Test.YtgojpflkhnaedaaDoorInsH
import Derived.Test.YtgojpflkhnaedaaDoorG9e
set_option linter.unusedVariables false
namespace Go.Proofs.YtgojpflkhnaedaaDoor
open Go.RowKit

theorem infoM : (Tryd.prog.info? 24).map (·.size) = some 2 := by kernel_rfl
theorem infoM2 {cs : Array Value} (h : cs.size = 2) : (Tryd.prog.info? 24).map (·.size) = some cs.size := by rw [h]; exact infoM
theorem rd_set9 {w W W' : World} {A A' : Option Addr} {n q : Nat} {l l' : List Int} (h : Rd w A n l) (hq : w.heap.size ≤ q) (hf : Frs W A A') (hqW : q < W.heap.size) (h' : Rd W' A' n l') (cs : Array Value) : Rd (W'.setRow q cs) A' n l' := by
  rcases h.off hq with h0 | ho
  · exact ⟨h'.1, .inl h0, h'.2.2⟩
  · exact h'.setRow (hf.off ho hqW) cs
set_option maxRecDepth 100000 in
set_option maxHeartbeats 4000000 in
theorem s9_end {A B : Option Addr} {n c m k : Nat} {d : Int} (inp : ByteArray) (g : Nat → Int) (mem : List Int) (rd : Int) (out : ByteArray) (st : Int) (pc en : Int) (w : World) (he : ¬ en = 0) (hR : Rd w A n mem) (hn1 : n ≤ c) (hn2 : c ≤ maxLen) :
    Calls Tryd.prog 15 #[.agg #[.slice B m k, .int .i64 d], .string inp, .agg (stc pc g (.slice A n c) rd out st en)] w fun e w' => ∃ v, e = .returned v ∧ StV w A w' n v ⟨pc, g, mem, rd, out, st, en⟩ ∧ Below w.heap.size w w' := by
  have hk := (((Kx.nil none w).more (.cells #[.slice B m k, .int .i64 d] 24 (0, 0))).add (w.heap.size + 1) (by simp) (.cells (stc pc g (.slice A n c) rd out st en) 30 (0, 0))).add (w.heap.size + 1 + 1) (by simp) (.cells #[.int .i64 0, .int .u32 0, .int .u32 0, .int .u32 0, .int .u32 0, .int .u32 0, .int .u32 0, .int .u32 0, .int .u32 0, .int .u32 0, .int .u32 0, .int .u32 0, .int .u32 0, .int .u32 0, .int .u32 0, .int .u32 0, .int .u32 0, .slice none 0 0, .int .i64 0, .string ⟨#[]⟩, .int .i64 0, .int .i64 0] 30 (0, 0))
  obtain ⟨W0, hW0⟩ : ∃ W, ((w.alloc (.cells #[.slice B m k, .int .i64 d] 24 (0, 0))).alloc (.cells (stc pc g (.slice A n c) rd out st en) 30 (0, 0))).alloc (.cells #[.int .i64 0, .int .u32 0, .int .u32 0, .int .u32 0, .int .u32 0, .int .u32 0, .int .u32 0, .int .u32 0, .int .u32 0, .int .u32 0, .int .u32 0, .int .u32 0, .int .u32 0, .int .u32 0, .int .u32 0, .int .u32 0, .int .u32 0, .slice none 0 0, .int .i64 0, .string ⟨#[]⟩, .int .i64 0, .int .i64 0] 30 (0, 0)) = W := ⟨_, rfl⟩
  rw [hW0] at hk
  have ce := row_cell (hk.at 1 rfl) 21 (stc_en pc g (.slice A n c) rd out st en)
  have hz := hk.putRow 2 rfl (.inr (by omega)) (stc pc g (.slice A n c) rd out st en)
  have g0 := Lib.hid (hk.at 1 rfl)
  have g1 := Lib.hid (hk.at 2 rfl)
  have g2 := Lib.hid (hz.at 2 rfl)
  have HB := Lib.hid hz.be.plain
  have S1 : Hid ((stc pc g (.slice A n c) rd out st en).all (·.oneCell') = true) := Lib.hid (stc_one _ _ _ _ _ _ _ _ _)
  have e1 : (en != 0) = true := bne_iff_ne.2 he
  clear hk hz
  go_enter Tryd.func15, Tryd.ntmps15
  go_upto_region 1 with fail
  go_upto_region 2 with fail
  go_wp2_with (first
    | (refine wpList_load_row rfl 30 _ rfl _ rfl 30 _ _ _ g0.out Tryd.underlying30 rfl (infoS2 rfl) ?_)
    | (refine wpList_store_rowTo rfl 30 _ _ rfl rfl _ _ rfl rfl 30 _ g1.out (infoS2 rfl) rfl S1.out ?_)
    | fail)
  exact bodyPost_ret (results_cell_row rfl _ _ _ 30 (stc pc g (.slice A n c) rd out st en) _ _ rfl g2.out Tryd.underlying30 rfl (infoS2 rfl)) rfl ⟨_, rfl, ⟨A, c, rfl, hR.below HB.out, hn1, hn2, .inl rfl⟩, HB.out⟩
set_option maxRecDepth 100000 in
set_option maxHeartbeats 4000000 in
theorem s9_low {A B : Option Addr} {n c m k : Nat} {d : Int} (inp : ByteArray) (g : Nat → Int) (mem : List Int) (rd : Int) (out : ByteArray) (st : Int) (pc : Int) (w : World) (hp : pc < 0) (hR : Rd w A n mem) (hn1 : n ≤ c) (hn2 : c ≤ maxLen) :
    Calls Tryd.prog 15 #[.agg #[.slice B m k, .int .i64 d], .string inp, .agg (stc pc g (.slice A n c) rd out st 0)] w fun e w' => ∃ v, e = .returned v ∧ StV w A w' n v ⟨pc, g, mem, rd, out, st, 7⟩ ∧ Below w.heap.size w w' := by
  have hk := (((Kx.nil none w).more (.cells #[.slice B m k, .int .i64 d] 24 (0, 0))).add (w.heap.size + 1) (by simp) (.cells (stc pc g (.slice A n c) rd out st 0) 30 (0, 0))).add (w.heap.size + 1 + 1) (by simp) (.cells #[.int .i64 0, .int .u32 0, .int .u32 0, .int .u32 0, .int .u32 0, .int .u32 0, .int .u32 0, .int .u32 0, .int .u32 0, .int .u32 0, .int .u32 0, .int .u32 0, .int .u32 0, .int .u32 0, .int .u32 0, .int .u32 0, .int .u32 0, .slice none 0 0, .int .i64 0, .string ⟨#[]⟩, .int .i64 0, .int .i64 0] 30 (0, 0))
  obtain ⟨W0, hW0⟩ : ∃ W, ((w.alloc (.cells #[.slice B m k, .int .i64 d] 24 (0, 0))).alloc (.cells (stc pc g (.slice A n c) rd out st 0) 30 (0, 0))).alloc (.cells #[.int .i64 0, .int .u32 0, .int .u32 0, .int .u32 0, .int .u32 0, .int .u32 0, .int .u32 0, .int .u32 0, .int .u32 0, .int .u32 0, .int .u32 0, .int .u32 0, .int .u32 0, .int .u32 0, .int .u32 0, .int .u32 0, .int .u32 0, .slice none 0 0, .int .i64 0, .string ⟨#[]⟩, .int .i64 0, .int .i64 0] 30 (0, 0)) = W := ⟨_, rfl⟩
  rw [hW0] at hk
  have ce := row_cell (hk.at 1 rfl) 21 (stc_en pc g (.slice A n c) rd out st 0)
  have cp := row_cell (hk.at 1 rfl) 0 (stc_pc pc g (.slice A n c) rd out st 0)
  have cm : W0.cell? ⟨w.heap.size, 0, none⟩ = some (.slice B m k) := row_cell (hk.at 0 rfl) 0 rfl
  have fe := row_froz (hk.at 1 rfl) 21
  have k1 := hk.putc 1 rfl (.inr (by omega)) 21 (.int .i64 7) (set_en pc g (.slice A n c) rd out st 0 7)
  have i1 : decide (pc < 0) = true := decide_eq_true hp
  have hz := k1.putRow 2 rfl (.inr (by omega)) (stc pc g (.slice A n c) rd out st 7)
  have g0 := Lib.hid (k1.at 1 rfl)
  have g1 := Lib.hid (k1.at 2 rfl)
  have g2 := Lib.hid (hz.at 2 rfl)
  have HB := Lib.hid hz.be.plain
  have S1 : Hid ((stc pc g (.slice A n c) rd out st 7).all (·.oneCell') = true) := Lib.hid (stc_one _ _ _ _ _ _ _ _ _)
  clear hk k1 hz
  go_enter Tryd.func15, Tryd.ntmps15
  go_upto_region 1 with fail
  go_upto_region 5 with fail
  go_wp2_with (first
    | (refine wpList_load_row rfl 30 _ rfl _ rfl 30 _ _ _ g0.out Tryd.underlying30 rfl (infoS2 rfl) ?_)
    | (refine wpList_store_rowTo rfl 30 _ _ rfl rfl _ _ rfl rfl 30 _ g1.out (infoS2 rfl) rfl S1.out ?_)
    | fail)
  exact bodyPost_ret (results_cell_row rfl _ _ _ 30 (stc pc g (.slice A n c) rd out st 7) _ _ rfl g2.out Tryd.underlying30 rfl (infoS2 rfl)) rfl ⟨_, rfl, ⟨A, c, rfl, hR.below HB.out, hn1, hn2, .inl rfl⟩, HB.out⟩
set_option maxRecDepth 100000 in
set_option maxHeartbeats 4000000 in
theorem s9_high {A B : Option Addr} {n c m k : Nat} {d : Int} (inp : ByteArray) (g : Nat → Int) (mem : List Int) (rd : Int) (out : ByteArray) (st : Int) (pc : Int) (w : World) (hp : 0 ≤ pc) (hq : (m : Int) ≤ pc) (hR : Rd w A n mem) (hn1 : n ≤ c) (hn2 : c ≤ maxLen) :
    Calls Tryd.prog 15 #[.agg #[.slice B m k, .int .i64 d], .string inp, .agg (stc pc g (.slice A n c) rd out st 0)] w fun e w' => ∃ v, e = .returned v ∧ StV w A w' n v ⟨pc, g, mem, rd, out, st, 7⟩ ∧ Below w.heap.size w w' := by
  have hk := (((Kx.nil none w).more (.cells #[.slice B m k, .int .i64 d] 24 (0, 0))).add (w.heap.size + 1) (by simp) (.cells (stc pc g (.slice A n c) rd out st 0) 30 (0, 0))).add (w.heap.size + 1 + 1) (by simp) (.cells #[.int .i64 0, .int .u32 0, .int .u32 0, .int .u32 0, .int .u32 0, .int .u32 0, .int .u32 0, .int .u32 0, .int .u32 0, .int .u32 0, .int .u32 0, .int .u32 0, .int .u32 0, .int .u32 0, .int .u32 0, .int .u32 0, .int .u32 0, .slice none 0 0, .int .i64 0, .string ⟨#[]⟩, .int .i64 0, .int .i64 0] 30 (0, 0))
  obtain ⟨W0, hW0⟩ : ∃ W, ((w.alloc (.cells #[.slice B m k, .int .i64 d] 24 (0, 0))).alloc (.cells (stc pc g (.slice A n c) rd out st 0) 30 (0, 0))).alloc (.cells #[.int .i64 0, .int .u32 0, .int .u32 0, .int .u32 0, .int .u32 0, .int .u32 0, .int .u32 0, .int .u32 0, .int .u32 0, .int .u32 0, .int .u32 0, .int .u32 0, .int .u32 0, .int .u32 0, .int .u32 0, .int .u32 0, .int .u32 0, .slice none 0 0, .int .i64 0, .string ⟨#[]⟩, .int .i64 0, .int .i64 0] 30 (0, 0)) = W := ⟨_, rfl⟩
  rw [hW0] at hk
  have ce := row_cell (hk.at 1 rfl) 21 (stc_en pc g (.slice A n c) rd out st 0)
  have cp := row_cell (hk.at 1 rfl) 0 (stc_pc pc g (.slice A n c) rd out st 0)
  have cm : W0.cell? ⟨w.heap.size, 0, none⟩ = some (.slice B m k) := row_cell (hk.at 0 rfl) 0 rfl
  have fe := row_froz (hk.at 1 rfl) 21
  have k1 := hk.putc 1 rfl (.inr (by omega)) 21 (.int .i64 7) (set_en pc g (.slice A n c) rd out st 0 7)
  have i1 : decide (pc < 0) = false := decide_eq_false (by omega)
  have i2 : decide ((m : Int) ≤ pc) = true := decide_eq_true hq
  have hz := k1.putRow 2 rfl (.inr (by omega)) (stc pc g (.slice A n c) rd out st 7)
  have g0 := Lib.hid (k1.at 1 rfl)
  have g1 := Lib.hid (k1.at 2 rfl)
  have g2 := Lib.hid (hz.at 2 rfl)
  have HB := Lib.hid hz.be.plain
  have S1 : Hid ((stc pc g (.slice A n c) rd out st 7).all (·.oneCell') = true) := Lib.hid (stc_one _ _ _ _ _ _ _ _ _)
  clear hk k1 hz
  go_enter Tryd.func15, Tryd.ntmps15
  go_upto_region 1 with fail
  go_upto_region 5 with fail
  go_wp2_with (first
    | (refine wpList_load_row rfl 30 _ rfl _ rfl 30 _ _ _ g0.out Tryd.underlying30 rfl (infoS2 rfl) ?_)
    | (refine wpList_store_rowTo rfl 30 _ _ rfl rfl _ _ rfl rfl 30 _ g1.out (infoS2 rfl) rfl S1.out ?_)
    | fail)
  exact bodyPost_ret (results_cell_row rfl _ _ _ 30 (stc pc g (.slice A n c) rd out st 7) _ _ rfl g2.out Tryd.underlying30 rfl (infoS2 rfl)) rfl ⟨_, rfl, ⟨A, c, rfl, hR.below HB.out, hn1, hn2, .inl rfl⟩, HB.out⟩
set_option maxRecDepth 100000 in
set_option maxHeartbeats 4000000 in
theorem s9_bad {A B : Option Addr} {n c m k : Nat} {code : List Int} {d : Int} (inp : ByteArray) (g : Nat → Int) (mem : List Int) (rd : Int) (out : ByteArray) (st : Int) (p : Nat) (v : Int) (w : World) (hT : Tabs w) (hc : Rd w B m code) (hm : m ≤ 1073741824) (hp : p < m) (hv : code.getD p 0 = v) (hst : -9223372036854775808 ≤ st ∧ st < 4611686018427387904) (hd : dcd v = #[.int .i64 0, .int .i64 0, .int .i64 0, .int .i64 0]) (hde : dce v = 7) (hR : Rd w A n mem) (hn1 : n ≤ c) (hn2 : c ≤ maxLen) :
    Calls Tryd.prog 15 #[.agg #[.slice B m k, .int .i64 d], .string inp, .agg (stc (p : Int) g (.slice A n c) rd out st 0)] w fun e w' => ∃ v, e = .returned v ∧ StV w A w' n v ⟨(p : Int), g, mem, rd, out, st + 1, 6⟩ ∧ Below w.heap.size w w' := by
  have hv0 : 0 ≤ v ∧ v < 4294967296 := by rw [← hv]; exact hc.2.2 p
  obtain ⟨bk, off, rfl, hcell⟩ := hc.cell hp
  rw [hv] at hcell
  have hk := (((Kx.nil none w).more (.cells #[.slice (some ⟨bk, off, none⟩) m k, .int .i64 d] 24 (0, 0))).add (w.heap.size + 1) (by simp) (.cells (stc (p : Int) g (.slice A n c) rd out st 0) 30 (0, 0))).add (w.heap.size + 1 + 1) (by simp) (.cells #[.int .i64 0, .int .u32 0, .int .u32 0, .int .u32 0, .int .u32 0, .int .u32 0, .int .u32 0, .int .u32 0, .int .u32 0, .int .u32 0, .int .u32 0, .int .u32 0, .int .u32 0, .int .u32 0, .int .u32 0, .int .u32 0, .int .u32 0, .slice none 0 0, .int .i64 0, .string ⟨#[]⟩, .int .i64 0, .int .i64 0] 30 (0, 0))
  obtain ⟨W0, hW0⟩ : ∃ W, ((w.alloc (.cells #[.slice (some ⟨bk, off, none⟩) m k, .int .i64 d] 24 (0, 0))).alloc (.cells (stc (p : Int) g (.slice A n c) rd out st 0) 30 (0, 0))).alloc (.cells #[.int .i64 0, .int .u32 0, .int .u32 0, .int .u32 0, .int .u32 0, .int .u32 0, .int .u32 0, .int .u32 0, .int .u32 0, .int .u32 0, .int .u32 0, .int .u32 0, .int .u32 0, .int .u32 0, .int .u32 0, .int .u32 0, .int .u32 0, .slice none 0 0, .int .i64 0, .string ⟨#[]⟩, .int .i64 0, .int .i64 0] 30 (0, 0)) = W := ⟨_, rfl⟩
  rw [hW0] at hk
  have ce := row_cell (hk.at 1 rfl) 21 (stc_en (p : Int) g (.slice A n c) rd out st 0)
  have cp := row_cell (hk.at 1 rfl) 0 (stc_pc (p : Int) g (.slice A n c) rd out st 0)
  have cm : W0.cell? ⟨w.heap.size, 0, none⟩ = some (.slice (some ⟨bk, off, none⟩) m k) := row_cell (hk.at 0 rfl) 0 rfl
  have cst := row_cell (hk.at 1 rfl) 20 (stc_st (p : Int) g (.slice A n c) rd out st 0)
  have fst := row_froz (hk.at 1 rfl) 20
  have k1 := hk.putc 1 rfl (.inr (by omega)) 20 (.int .i64 (st + 1)) (set_st (p : Int) g (.slice A n c) rd out st 0 (st + 1))
  obtain ⟨W1, hW1⟩ : ∃ W, W0.setCell ⟨w.heap.size + 1, 20, none⟩ (.int .i64 (st + 1)) = W := ⟨_, rfl⟩
  rw [hW1] at k1
  have cp1 := row_cell (k1.at 1 rfl) 0 (stc_pc (p : Int) g (.slice A n c) rd out (st + 1) 0)
  have cm1 : W1.cell? ⟨w.heap.size, 0, none⟩ = some (.slice (some ⟨bk, off, none⟩) m k) := row_cell (k1.at 0 rfl) 0 rfl
  have hb0 : bk < w.heap.size := by
    rcases hc.2.1 with h0 | ⟨b1, o1, e1, hlt, _⟩
    · omega
    · injection e1 with e1
      injection e1 with e1 _ _
      rw [e1]; exact hlt
  have cc1 := (k1.be.plain.cell (p := ⟨bk, off + p, none⟩) hb0).trans hcell
  have p0 : (0 : Int) ≤ (p : Int) := by omega
  have p1 : (p : Int) < (m : Int) := by omega
  have i1 : decide ((p : Int) < 0) = false := decide_eq_false (by omega)
  have i2 : decide ((m : Int) ≤ (p : Int)) = false := decide_eq_false (by omega)
  have w1 : IntKind.i64.wrap (st + 1) = st + 1 := by rw [IntKind.wrap_i64]; omega
  have cd := fun W (h : Tabs W) => decode7 v W hv0.1 hv0.2 h
  rw [hd, hde] at cd
  have CD := Lib.hid cd
  have HT := Lib.hid (hT.below k1.be.plain)
  have HK1 := Lib.hid k1
  clear cd hk k1 hcell hc hv hv0 hb0 hT
  go_enter Tryd.func15, Tryd.ntmps15
  go_upto_region 7 with fail
  go_wp2_with fail
  refine (CD.out _ HT.out).mono ?_
  rintro e w2 ⟨rfl, hbl⟩
  have k2 := (HK1.out.after hbl).add w2.heap.size rfl (.cells #[.int .i64 0, .int .i64 0, .int .i64 0, .int .i64 0] 40 (0, 0))
  have xe := row_cell (k2.at 1 rfl) 21 (stc_en (p : Int) g (.slice A n c) rd out (st + 1) 0)
  have fe := row_froz (k2.at 1 rfl) 21
  have k3 := k2.putc 1 rfl (.inr (by omega)) 21 (.int .i64 6) (set_en (p : Int) g (.slice A n c) rd out (st + 1) 0 6)
  have hz := k3.putRow 2 rfl (.inr (by omega)) (stc (p : Int) g (.slice A n c) rd out (st + 1) 6)
  have g0 := Lib.hid (k3.at 1 rfl)
  have g1 := Lib.hid (k3.at 2 rfl)
  have g2 := Lib.hid (hz.at 2 rfl)
  have HB := Lib.hid hz.be.plain
  have S1 : Hid ((stc (p : Int) g (.slice A n c) rd out (st + 1) 6).all (·.oneCell') = true) := Lib.hid (stc_one _ _ _ _ _ _ _ _ _)
  clear k2 k3 hz hbl
  go_upto_region 10 with fail
  go_wp2_with (first
    | (refine wpList_load_row rfl 30 _ rfl _ rfl 30 _ _ _ g0.out Tryd.underlying30 rfl (infoS2 rfl) ?_)
    | (refine wpList_store_rowTo rfl 30 _ _ rfl rfl _ _ rfl rfl 30 _ g1.out (infoS2 rfl) rfl S1.out ?_)
    | fail)
  exact bodyPost_ret (results_cell_row rfl _ _ _ 30 (stc (p : Int) g (.slice A n c) rd out (st + 1) 6) _ _ rfl g2.out Tryd.underlying30 rfl (infoS2 rfl)) rfl ⟨_, rfl, ⟨A, c, rfl, hR.below HB.out, hn1, hn2, .inl rfl⟩, HB.out⟩
set_option maxRecDepth 100000 in
set_option maxHeartbeats 4000000 in
theorem s9_do {A B : Option Addr} {n c m k : Nat} {code : List Int} {d : Int} (inp : ByteArray) (g : Nat → Int) (mem : List Int) (rd : Int) (out : ByteArray) (st : Int) (p : Nat) (v : Int) {o cc : Int} {a b : Nat} (w : World) (hT : Tabs w) (hc : Rd w B m code) (hm : m ≤ 1073741824) (hp : p < m) (hv : code.getD p 0 = v) (hst : -9223372036854775808 ≤ st ∧ st < 4611686018427387904) (hd : dcd v = #[.int .i64 o, .int .i64 (a : Int), .int .i64 (b : Int), .int .i64 cc]) (hde : dce v = 0) (hr : rgt o (a : Int) (b : Int) cc = true) (hn : n ≤ 1073741824) (hg : Wg g) (hin : inp.size ≤ 1073741824) (hR : Rd w A n mem) (hn1 : n ≤ c) (hn2 : c ≤ maxLen) :
    Calls Tryd.prog 15 #[.agg #[.slice B m k, .int .i64 d], .string inp, .agg (stc (p : Int) g (.slice A n c) rd out st 0)] w fun e w' => ∃ v, e = .returned v ∧ StV w A w' n v (xop code inp ⟨(p : Int), g, mem, rd, out, st + 1, 0⟩ o a b cc) ∧ Below w.heap.size w w' := by
  have hv0 : 0 ≤ v ∧ v < 4294967296 := by rw [← hv]; exact hc.2.2 p
  obtain ⟨bk, off, rfl, hcell⟩ := hc.cell hp
  rw [hv] at hcell
  have hk := (((Kx.nil none w).more (.cells #[.slice (some ⟨bk, off, none⟩) m k, .int .i64 d] 24 (0, 0))).add (w.heap.size + 1) (by simp) (.cells (stc (p : Int) g (.slice A n c) rd out st 0) 30 (0, 0))).add (w.heap.size + 1 + 1) (by simp) (.cells #[.int .i64 0, .int .u32 0, .int .u32 0, .int .u32 0, .int .u32 0, .int .u32 0, .int .u32 0, .int .u32 0, .int .u32 0, .int .u32 0, .int .u32 0, .int .u32 0, .int .u32 0, .int .u32 0, .int .u32 0, .int .u32 0, .int .u32 0, .slice none 0 0, .int .i64 0, .string ⟨#[]⟩, .int .i64 0, .int .i64 0] 30 (0, 0))
  obtain ⟨W0, hW0⟩ : ∃ W, ((w.alloc (.cells #[.slice (some ⟨bk, off, none⟩) m k, .int .i64 d] 24 (0, 0))).alloc (.cells (stc (p : Int) g (.slice A n c) rd out st 0) 30 (0, 0))).alloc (.cells #[.int .i64 0, .int .u32 0, .int .u32 0, .int .u32 0, .int .u32 0, .int .u32 0, .int .u32 0, .int .u32 0, .int .u32 0, .int .u32 0, .int .u32 0, .int .u32 0, .int .u32 0, .int .u32 0, .int .u32 0, .int .u32 0, .int .u32 0, .slice none 0 0, .int .i64 0, .string ⟨#[]⟩, .int .i64 0, .int .i64 0] 30 (0, 0)) = W := ⟨_, rfl⟩
  rw [hW0] at hk
  have ce := row_cell (hk.at 1 rfl) 21 (stc_en (p : Int) g (.slice A n c) rd out st 0)
  have cp := row_cell (hk.at 1 rfl) 0 (stc_pc (p : Int) g (.slice A n c) rd out st 0)
  have cm : W0.cell? ⟨w.heap.size, 0, none⟩ = some (.slice (some ⟨bk, off, none⟩) m k) := row_cell (hk.at 0 rfl) 0 rfl
  have cst := row_cell (hk.at 1 rfl) 20 (stc_st (p : Int) g (.slice A n c) rd out st 0)
  have fst := row_froz (hk.at 1 rfl) 20
  have k1 := hk.putc 1 rfl (.inr (by omega)) 20 (.int .i64 (st + 1)) (set_st (p : Int) g (.slice A n c) rd out st 0 (st + 1))
  obtain ⟨W1, hW1⟩ : ∃ W, W0.setCell ⟨w.heap.size + 1, 20, none⟩ (.int .i64 (st + 1)) = W := ⟨_, rfl⟩
  rw [hW1] at k1
  have cp1 := row_cell (k1.at 1 rfl) 0 (stc_pc (p : Int) g (.slice A n c) rd out (st + 1) 0)
  have cm1 : W1.cell? ⟨w.heap.size, 0, none⟩ = some (.slice (some ⟨bk, off, none⟩) m k) := row_cell (k1.at 0 rfl) 0 rfl
  have hb0 : bk < w.heap.size := by
    rcases hc.2.1 with h0 | ⟨b1, o1, e1, hlt, _⟩
    · omega
    · injection e1 with e1
      injection e1 with e1 _ _
      rw [e1]; exact hlt
  have cc1 := (k1.be.plain.cell (p := ⟨bk, off + p, none⟩) hb0).trans hcell
  have p0 : (0 : Int) ≤ (p : Int) := by omega
  have p1 : (p : Int) < (m : Int) := by omega
  have i1 : decide ((p : Int) < 0) = false := decide_eq_false (by omega)
  have i2 : decide ((m : Int) ≤ (p : Int)) = false := decide_eq_false (by omega)
  have w1 : IntKind.i64.wrap (st + 1) = st + 1 := by rw [IntKind.wrap_i64]; omega
  have cd := fun W (h : Tabs W) => decode7 v W hv0.1 hv0.2 h
  rw [hd, hde] at cd
  have CD := Lib.hid cd
  have HT := Lib.hid (hT.below k1.be.plain)
  have HK1 := Lib.hid k1
  have HC := Lib.hid hc
  have cs := fun W (h1 : Rd W (some ⟨bk, off, none⟩) m code) (h2 : Rd W A n mem) => do9 (c := c) (k := k) (d := d) inp (p : Int) g mem rd out (st + 1) W h1 hm h2 hn hn1 hn2 hg hin ⟨p0, by omega⟩ hr
  have CS := Lib.hid cs
  clear cd hk k1 hcell hc hv hv0 hb0 hT cs hr
  go_enter Tryd.func15, Tryd.ntmps15
  go_upto_region 7 with fail
  go_wp2_with fail
  refine (CD.out _ HT.out).mono ?_
  rintro e w2 ⟨rfl, hbl⟩
  have k2 := (HK1.out.after hbl).add w2.heap.size rfl (.cells #[.int .i64 o, .int .i64 (a : Int), .int .i64 (b : Int), .int .i64 cc] 40 (0, 0))
  obtain ⟨w3, hw3⟩ : ∃ W, w2.alloc (.cells #[.int .i64 o, .int .i64 (a : Int), .int .i64 (b : Int), .int .i64 cc] 40 (0, 0)) = W := ⟨_, rfl⟩
  rw [hw3] at k2
  have gm := Lib.hid (k2.at 0 rfl)
  have g0 := Lib.hid (k2.at 1 rfl)
  have gi := Lib.hid (k2.at 3 rfl)
  have HK := Lib.hid k2
  clear k2 hbl
  go_upto_region 11 with fail
  go_wp2_with (first
    | (refine wpList_load_row rfl 30 _ rfl _ rfl 30 _ _ _ g0.out Tryd.underlying30 rfl (infoS2 rfl) ?_)
    | (refine wpList_load_row rfl 40 _ rfl _ rfl 40 _ _ _ gi.out Tryd.underlying40 rfl (infoI2 rfl) ?_)
    | (refine wpList_load_row rfl 24 _ rfl _ rfl 24 _ _ _ gm.out Tryd.underlying24 rfl (infoM2 rfl) ?_)
    | fail)
  refine (CS.out _ (HC.out.below HK.out.be.plain) (hR.below HK.out.be.plain)).mono ?_
  rintro e w4 ⟨v1, i, rfl, ⟨⟨pc1, g1v, mem1, rd1, out1, st1, en1⟩, ⟨A1, c1, rfl, hr1, h1, h2, hfr⟩, hX⟩, hb4⟩
  dsimp only at hr1 hX ⊢
  have k4 := (HK.out.after hb4).add w4.heap.size rfl (.cells #[.int .i64 0, .int .u32 0, .int .u32 0, .int .u32 0, .int .u32 0, .int .u32 0, .int .u32 0, .int .u32 0, .int .u32 0, .int .u32 0, .int .u32 0, .int .u32 0, .int .u32 0, .int .u32 0, .int .u32 0, .int .u32 0, .int .u32 0, .slice none 0 0, .int .i64 0, .string ⟨#[]⟩, .int .i64 0, .int .i64 0] 30 (0, 0))
  have hsz := HK.out.be.size
  have hs4 := hb4.size
  have k5 := k4.putRow 4 rfl (.inr (by omega)) (stc pc1 g1v (.slice A1 n c1) rd1 out1 st1 en1)
  have g1 := Lib.hid (k4.at 4 rfl)
  have S1 : Hid ((stc pc1 g1v (.slice A1 n c1) rd1 out1 st1 en1).all (·.oneCell') = true) := Lib.hid (stc_one _ _ _ _ _ _ _ _ _)
  go_upto_region 12 with (first
    | (refine wpList_store_rowTo rfl 30 _ _ rfl rfl _ _ rfl rfl 30 _ g1.out (infoS2 rfl) rfl S1.out ?_)
    | fail)
  obtain ⟨w5, hw5⟩ : ∃ W, (w4.alloc (.cells #[.int .i64 0, .int .u32 0, .int .u32 0, .int .u32 0, .int .u32 0, .int .u32 0, .int .u32 0, .int .u32 0, .int .u32 0, .int .u32 0, .int .u32 0, .int .u32 0, .int .u32 0, .int .u32 0, .int .u32 0, .int .u32 0, .int .u32 0, .slice none 0 0, .int .i64 0, .string ⟨#[]⟩, .int .i64 0, .int .i64 0] 30 (0, 0))).setRow w4.heap.size (stc pc1 g1v (.slice A1 n c1) rd1 out1 st1 en1) = W := ⟨_, rfl⟩
  rw [hw5] at k5 ⊢
  have hr5 : Rd w5 A1 n mem1 := hr1.below (by rw [← hw5]; exact ((Kx.nil none w4).add w4.heap.size rfl (.cells #[.int .i64 0, .int .u32 0, .int .u32 0, .int .u32 0, .int .u32 0, .int .u32 0, .int .u32 0, .int .u32 0, .int .u32 0, .int .u32 0, .int .u32 0, .int .u32 0, .int .u32 0, .int .u32 0, .int .u32 0, .int .u32 0, .int .u32 0, .slice none 0 0, .int .i64 0, .string ⟨#[]⟩, .int .i64 0, .int .i64 0] 30 (0, 0))).putRow 0 rfl (.inr (Nat.le_refl _)) _ |>.be.plain)
  clear g1 S1 g0 gm gi k4
  by_cases h0 : i = 0
  · have e0 : (i != 0) = false := by rw [h0]; rfl
    have hX2 : xop code inp ⟨(p : Int), g, mem, rd, out, st + 1, 0⟩ o a b cc = ⟨pc1, g1v, mem1, rd1, out1, st1, en1⟩ := by
      rcases hX with h | h
      · exact h.2
      · exact absurd h0 h.1
    have HX := Lib.hid hX2
    clear hX hX2 h0
    have hz := k5.putRow 2 rfl (.inr (by omega)) (stc pc1 g1v (.slice A1 n c1) rd1 out1 st1 en1)
    have g0 := Lib.hid (k5.at 4 rfl)
    have g1 := Lib.hid (k5.at 2 rfl)
    have g2 := Lib.hid (hz.at 2 rfl)
    have HB := Lib.hid hz.be.plain
    have S1 : Hid ((stc pc1 g1v (.slice A1 n c1) rd1 out1 st1 en1).all (·.oneCell') = true) := Lib.hid (stc_one _ _ _ _ _ _ _ _ _)
    have hrz := Lib.hid (rd_set9 hR (q := w.heap.size + 1 + 1) (by omega) hfr (by have := HK.out.lt 2 rfl; exact this) hr5 (stc pc1 g1v (.slice A1 n c1) rd1 out1 st1 en1))
    have hfz := Lib.hid (hfr.mono hsz)
    clear k5 hz hr5
    go_upto_region 15 with fail
    go_wp2_with (first
        | (refine wpList_load_row rfl 30 _ rfl _ rfl 30 _ _ _ g0.out Tryd.underlying30 rfl (infoS2 rfl) ?_)
        | (refine wpList_store_rowTo rfl 30 _ _ rfl rfl _ _ rfl rfl 30 _ g1.out (infoS2 rfl) rfl S1.out ?_)
        | fail)
    exact bodyPost_ret (results_cell_row rfl _ _ _ 30 (stc pc1 g1v (.slice A1 n c1) rd1 out1 st1 en1) _ _ rfl g2.out Tryd.underlying30 rfl (infoS2 rfl)) rfl ⟨_, rfl, by rw [HX.out]; exact ⟨A1, c1, rfl, hrz.out, h1, h2, hfz.out⟩, HB.out⟩
  · have e0 : (i != 0) = true := bne_iff_ne.2 h0
    have hX2 : xop code inp ⟨(p : Int), g, mem, rd, out, st + 1, 0⟩ o a b cc = ⟨(p : Int), g, mem, rd, out, st + 1, i⟩ := by
      rcases hX with h | h
      · exact absurd h.1 h0
      · exact h.2
    have HX := Lib.hid hX2
    clear hX hX2 h0
    have xe := row_cell (k5.at 1 rfl) 21 (stc_en (p : Int) g (.slice A n c) rd out (st + 1) 0)
    have fe := row_froz (k5.at 1 rfl) 21
    have k6 := k5.putc 1 rfl (.inr (by omega)) 21 (.int .i64 i) (set_en (p : Int) g (.slice A n c) rd out (st + 1) 0 i)
    have hz := k6.putRow 2 rfl (.inr (by omega)) (stc (p : Int) g (.slice A n c) rd out (st + 1) i)
    have g0 := Lib.hid (k6.at 1 rfl)
    have g1 := Lib.hid (k6.at 2 rfl)
    have g2 := Lib.hid (hz.at 2 rfl)
    have HB := Lib.hid hz.be.plain
    have S1 : Hid ((stc (p : Int) g (.slice A n c) rd out (st + 1) i).all (·.oneCell') = true) := Lib.hid (stc_one _ _ _ _ _ _ _ _ _)
    clear k5 k6 hz hr5
    go_upto_region 14 with fail
    go_wp2_with (first
        | (refine wpList_load_row rfl 30 _ rfl _ rfl 30 _ _ _ g0.out Tryd.underlying30 rfl (infoS2 rfl) ?_)
        | (refine wpList_store_rowTo rfl 30 _ _ rfl rfl _ _ rfl rfl 30 _ g1.out (infoS2 rfl) rfl S1.out ?_)
        | fail)
    exact bodyPost_ret (results_cell_row rfl _ _ _ 30 (stc (p : Int) g (.slice A n c) rd out (st + 1) i) _ _ rfl g2.out Tryd.underlying30 rfl (infoS2 rfl)) rfl ⟨_, rfl, by rw [HX.out]; exact ⟨A, c, rfl, hR.below HB.out, hn1, hn2, .inl rfl⟩, HB.out⟩
set_option maxRecDepth 100000 in
set_option maxHeartbeats 4000000 in
theorem step9 {A B : Option Addr} {n c m k : Nat} {code : List Int} {d : Int} (inp : ByteArray) (x : Mst) (w : World) (hT : Tabs w) (hc : Rd w B m code) (hm : m ≤ 1073741824) (hR : Rd w A n x.mem) (hn : n ≤ 1073741824) (hn1 : n ≤ c) (hn2 : c ≤ maxLen)
    (hg : Wg x.g) (hst : -9223372036854775808 ≤ x.st ∧ x.st < 4611686018427387904) (hin : inp.size ≤ 1073741824) :
    Calls Tryd.prog 15 #[.agg #[.slice B m k, .int .i64 d], .string inp, .agg (stc x.pc x.g (.slice A n c) x.rd x.out x.st x.en)] w fun e w' => ∃ v, e = .returned v ∧ StV w A w' n v (nxt code inp x) ∧ Below w.heap.size w w' := by
  obtain ⟨pc, g, mem, rd, out, st, en⟩ := x
  dsimp only at hR hg hst ⊢
  have hcl := hc.1
  by_cases he : en = 0
  · subst he
    by_cases hlo : pc < 0
    · rw [nxt_out (.inl hlo)]
      exact s9_low inp g mem rd out st pc w hlo hR hn1 hn2
    · by_cases hhi : (m : Int) ≤ pc
      · rw [nxt_out (.inr (by rw [hcl]; exact hhi))]
        exact s9_high inp g mem rd out st pc w (by omega) hhi hR hn1 hn2
      · obtain ⟨p, rfl⟩ : ∃ p : Nat, pc = (p : Int) := ⟨pc.toNat, by omega⟩
        have hp : p < m := by omega
        obtain ⟨v, hv⟩ : ∃ v, code.getD p 0 = v := ⟨_, rfl⟩
        have hvb : 0 ≤ v ∧ v < 4294967296 := by rw [← hv]; exact hc.2.2 p
        obtain ⟨o, ho⟩ : ∃ o, v / 16777216 = o := ⟨_, rfl⟩
        obtain ⟨ai, hai⟩ : ∃ a, v / 1048576 % 16 = a := ⟨_, rfl⟩
        obtain ⟨bi, hbi⟩ : ∃ b, v / 65536 % 16 = b := ⟨_, rfl⟩
        obtain ⟨cc, hcc⟩ : ∃ c, v % 65536 = c := ⟨_, rfl⟩
        rw [nxt_op (by rw [hcl]; exact hp) hv ho hai hbi hcc]
        have hd : dcd v = if rgt o ai bi cc then #[.int .i64 o, .int .i64 ai, .int .i64 bi, .int .i64 cc] else #[.int .i64 0, .int .i64 0, .int .i64 0, .int .i64 0] := by unfold dcd; rw [ho, hai, hbi, hcc]
        have hde : dce v = if rgt o ai bi cc then 0 else 7 := by unfold dce; rw [ho, hai, hbi, hcc]
        cases hr : rgt o ai bi cc with
        | false =>
          rw [hr] at hd hde
          exact s9_bad inp g mem rd out st p v w hT hc hm hp hv hst hd hde hR hn1 hn2
        | true =>
          rw [hr] at hd hde
          rw [if_pos rfl]
          have hbd := rgt_bounds hr
          obtain ⟨a, rfl⟩ : ∃ a : Nat, ai = (a : Int) := ⟨ai.toNat, by omega⟩
          obtain ⟨b, rfl⟩ : ∃ b : Nat, bi = (b : Int) := ⟨bi.toNat, by omega⟩
          rw [Int.toNat_natCast, Int.toNat_natCast]
          exact s9_do inp g mem rd out st p v w hT hc hm hp hv hst hd hde hr hn hg hin hR hn1 hn2
  · rw [nxt_end he]
    exact s9_end inp g mem rd out st pc en w he hR hn1 hn2
set_option maxRecDepth 100000 in
set_option maxHeartbeats 2000000 in
theorem start9 {B : Option Addr} {m k : Nat} {d : Int} (w : World) :
    Calls Tryd.prog 12 #[.agg #[.slice B m k, .int .i64 d]] w fun e w' => ∃ A n c, e = .returned (.agg (stc 0 (fun _ => 0) (.slice A n c) 0 ⟨#[]⟩ 0 0)) ∧ Rd w' A n (zer d) ∧ n ≤ c ∧ c ≤ maxLen ∧ Frs w none A ∧ Below w.heap.size w w' := by
  have hk := ((Kx.nil none w).more (.cells #[.slice B m k, .int .i64 d] 24 (0, 0))).add (w.heap.size + 1) (by simp) (.cells #[.int .i64 0, .int .u32 0, .int .u32 0, .int .u32 0, .int .u32 0, .int .u32 0, .int .u32 0, .int .u32 0, .int .u32 0, .int .u32 0, .int .u32 0, .int .u32 0, .int .u32 0, .int .u32 0, .int .u32 0, .int .u32 0, .int .u32 0, .slice none 0 0, .int .i64 0, .string ⟨#[]⟩, .int .i64 0, .int .i64 0] 30 (0, 0))
  obtain ⟨W0, hW0⟩ : ∃ W, (w.alloc (.cells #[.slice B m k, .int .i64 d] 24 (0, 0))).alloc (.cells #[.int .i64 0, .int .u32 0, .int .u32 0, .int .u32 0, .int .u32 0, .int .u32 0, .int .u32 0, .int .u32 0, .int .u32 0, .int .u32 0, .int .u32 0, .int .u32 0, .int .u32 0, .int .u32 0, .int .u32 0, .int .u32 0, .int .u32 0, .slice none 0 0, .int .i64 0, .string ⟨#[]⟩, .int .i64 0, .int .i64 0] 30 (0, 0)) = W := ⟨_, rfl⟩
  rw [hW0] at hk
  have cd := row_cell (hk.at 0 rfl) 1 (v := .int .i64 d) rfl
  have cr := fun w => right8 (A := none) (n := 0) (c := 0) (d := d) [] w rfl (by omega)
  have HK := Lib.hid hk
  clear hk
  by_cases h1 : 0 ≤ d ∧ d ≤ 32768
  · have hi : irt [] d = true := by simp [irt, h1.1, h1.2]
    rw [hi] at cr
    have CR := Lib.hid cr
    clear cr hi
    obtain ⟨n, rfl⟩ : ∃ n : Nat, d = (n : Int) := ⟨d.toNat, by omega⟩
    have hz0 : zer (n : Int) = List.replicate n 0 := by
      unfold zer
      by_cases h0 : 0 < (n : Int)
      · rw [if_pos ⟨h0, h1.2⟩, Int.toNat_natCast]
      · rw [if_neg (fun h => h0 h.1), show n = 0 from by omega]; rfl
    rw [hz0]
    have hn : n ≤ 32768 := by omega
    have n1 : (0 : Int) ≤ (n : Int) := by omega
    clear h1 hz0
    go_enter Tryd.func12, Tryd.ntmps12
    go_upto_region 1 with fail
    go_wp2_with fail
    refine (CR.out _).mono ?_
    rintro e w2 ⟨rfl, hb⟩
    have kz := HK.out.after hb
    have cd2 := row_cell (kz.at 0 rfl) 1 (v := .int .i64 (n : Int)) rfl
    obtain ⟨q, hq⟩ : ∃ q, w2.heap.size = q := ⟨_, rfl⟩
    have hqw : w.heap.size ≤ q := by rw [← hq]; exact kz.be.size
    have ka := kz.add q hq (.cells (madeCells #[Value.int .u32 0] n) 27 (0, 0))
    obtain ⟨W1, hW1⟩ : ∃ W, w2.alloc (.cells (madeCells #[Value.int .u32 0] n) 27 (0, 0)) = W := ⟨_, rfl⟩
    rw [hW1] at ka
    have hz := ka.putRow 1 rfl (.inr (by omega)) #[.int .i64 0, .int .u32 0, .int .u32 0, .int .u32 0, .int .u32 0, .int .u32 0, .int .u32 0, .int .u32 0, .int .u32 0, .int .u32 0, .int .u32 0, .int .u32 0, .int .u32 0, .int .u32 0, .int .u32 0, .int .u32 0, .int .u32 0, .slice (some ⟨q, 0, none⟩) n n, .int .i64 0, .string ⟨#[]⟩, .int .i64 0, .int .i64 0]
    have g1 := Lib.hid (ka.at 1 rfl)
    have g2 := Lib.hid (hz.at 1 rfl)
    have HR := Lib.hid (rd_made (hz.at 2 rfl))
    have HB := Lib.hid hz.be.plain
    have S1 : Hid ((#[.int .i64 0, .int .u32 0, .int .u32 0, .int .u32 0, .int .u32 0, .int .u32 0, .int .u32 0, .int .u32 0, .int .u32 0, .int .u32 0, .int .u32 0, .int .u32 0, .int .u32 0, .int .u32 0, .int .u32 0, .int .u32 0, .int .u32 0, .slice (some ⟨q, 0, none⟩) n n, .int .i64 0, .string ⟨#[]⟩, .int .i64 0, .int .i64 0] : Array Value).all (·.oneCell') = true) := Lib.hid (stc_one 0 (fun _ => 0) 0 ⟨#[]⟩ 0 0 (some ⟨q, 0, none⟩) n n)
    obtain ⟨z0, hz', hz0, hz1, hz2⟩ := info_parts infoU32
    clear kz ka hz hb cd
    go_upto_region 3 with fail
    go_wp2_with (first
      | (at_make; refine wpList_make_row _ rfl _ _ 22 rfl 27 z0 (.int .u32 0) Tryd.underlying22 hz' hz0 hz1 rfl .i64 .i64 n rfl rfl (by rw [hz2]; omega) (by omega) ?_)
      | (refine wpList_store_rowTo rfl 30 _ _ rfl rfl _ _ rfl rfl 30 _ g1.out (infoS2 rfl) rfl S1.out ?_)
      | fail)
    exact bodyPost_ret (results_cell_row rfl _ _ _ 30 #[.int .i64 0, .int .u32 0, .int .u32 0, .int .u32 0, .int .u32 0, .int .u32 0, .int .u32 0, .int .u32 0, .int .u32 0, .int .u32 0, .int .u32 0, .int .u32 0, .int .u32 0, .int .u32 0, .int .u32 0, .int .u32 0, .int .u32 0, .slice (some ⟨q, 0, none⟩) n n, .int .i64 0, .string ⟨#[]⟩, .int .i64 0, .int .i64 0] _ _ rfl g2.out Tryd.underlying30 rfl (infoS2 rfl)) rfl ⟨_, n, n, rfl, HR.out, Nat.le_refl _, by unfold maxLen; omega, frs_new hqw, HB.out⟩
  · have hi : irt [] d = false := by
      unfold irt
      by_cases h0 : 0 ≤ d
      · rw [decide_eq_false (show ¬ d ≤ 32768 from fun h => h1 ⟨h0, h⟩), Bool.and_false]
      · rw [decide_eq_false h0, Bool.and_false, Bool.false_and]
    rw [hi] at cr
    have CR := Lib.hid cr
    rw [show zer d = [] from by unfold zer; rw [if_neg (fun h => h1 ⟨by omega, h.2⟩)]]
    clear cr hi h1
    go_enter Tryd.func12, Tryd.ntmps12
    go_upto_region 1 with fail
    go_wp2_with fail
    refine (CR.out _).mono ?_
    rintro e w2 ⟨rfl, hb⟩
    have kz := HK.out.after hb
    have hz := kz.putRow 1 rfl (.inr (by omega)) #[.int .i64 0, .int .u32 0, .int .u32 0, .int .u32 0, .int .u32 0, .int .u32 0, .int .u32 0, .int .u32 0, .int .u32 0, .int .u32 0, .int .u32 0, .int .u32 0, .int .u32 0, .int .u32 0, .int .u32 0, .int .u32 0, .int .u32 0, .slice none 0 0, .int .i64 0, .string ⟨#[]⟩, .int .i64 0, .int .i64 0]
    have g1 := Lib.hid (kz.at 1 rfl)
    have g2 := Lib.hid (hz.at 1 rfl)
    have HB := Lib.hid hz.be.plain
    have S1 : Hid ((#[.int .i64 0, .int .u32 0, .int .u32 0, .int .u32 0, .int .u32 0, .int .u32 0, .int .u32 0, .int .u32 0, .int .u32 0, .int .u32 0, .int .u32 0, .int .u32 0, .int .u32 0, .int .u32 0, .int .u32 0, .int .u32 0, .int .u32 0, .slice none 0 0, .int .i64 0, .string ⟨#[]⟩, .int .i64 0, .int .i64 0] : Array Value).all (·.oneCell') = true) := Lib.hid (stc_one 0 (fun _ => 0) 0 ⟨#[]⟩ 0 0 none 0 0)
    clear kz hz hb cd
    go_upto_region 2 with fail
    go_wp2_with (first
      | (refine wpList_store_rowTo rfl 30 _ _ rfl rfl _ _ rfl rfl 30 _ g1.out (infoS2 rfl) rfl S1.out ?_)
      | fail)
    exact bodyPost_ret (results_cell_row rfl _ _ _ 30 #[.int .i64 0, .int .u32 0, .int .u32 0, .int .u32 0, .int .u32 0, .int .u32 0, .int .u32 0, .int .u32 0, .int .u32 0, .int .u32 0, .int .u32 0, .int .u32 0, .int .u32 0, .int .u32 0, .int .u32 0, .int .u32 0, .int .u32 0, .slice none 0 0, .int .i64 0, .string ⟨#[]⟩, .int .i64 0, .int .i64 0] _ _ rfl g2.out Tryd.underlying30 rfl (infoS2 rfl)) rfl ⟨_, 0, 0, rfl, ⟨rfl, .inl rfl, fun j => by simp⟩, Nat.le_refl _, by unfold maxLen; omega, frs_none w none, HB.out⟩
set_option maxRecDepth 100000 in
set_option maxHeartbeats 4000000 in
theorem same9 {A B : Option Addr} {n c m e : Nat} (x y : Mst) (w : World) (ha : Rd w A n x.mem) (hb : Rd w B m y.mem) (hn : n ≤ 1073741824) (hm : m ≤ 1073741824) :
    Calls Tryd.prog 17 #[.agg (stc x.pc x.g (.slice A n c) x.rd x.out x.st x.en), .agg (stc y.pc y.g (.slice B m e) y.rd y.out y.st y.en)] w fun en w' => en = .returned (.bool (decide (x.eqv y))) ∧ Below w.heap.size w w' := by
  have hk := ((Kx.nil none w).more (.cells (stc x.pc x.g (.slice A n c) x.rd x.out x.st x.en) 30 (0, 0))).add (w.heap.size + 1) (by simp) (.cells (stc y.pc y.g (.slice B m e) y.rd y.out y.st y.en) 30 (0, 0))
  obtain ⟨W0, hW0⟩ : ∃ W, (w.alloc (.cells (stc x.pc x.g (.slice A n c) x.rd x.out x.st x.en) 30 (0, 0))).alloc (.cells (stc y.pc y.g (.slice B m e) y.rd y.out y.st y.en) 30 (0, 0)) = W := ⟨_, rfl⟩
  rw [hW0] at hk
  have a0 := row_cell (hk.at 0 rfl) 0 (stc_pc _ _ _ _ _ _ _)
  have b0 := row_cell (hk.at 1 rfl) 0 (stc_pc _ _ _ _ _ _ _)
  have a1 := Lib.hid (range16 (hk.at 0 rfl))
  have b1 := Lib.hid (range16 (hk.at 1 rfl))
  have a2 := row_cell (hk.at 0 rfl) 17 (stc_mem _ _ _ _ _ _ _)
  have b2 := row_cell (hk.at 1 rfl) 17 (stc_mem _ _ _ _ _ _ _)
  have q16 := eq16 W0 x.g y.g
  have HK := Lib.hid hk
  have cw := equal8 (c := c) (e := e) W0 (ha.below hk.be.plain) (hb.below hk.be.plain) hn hm
  clear hk ha hb hn hm
  by_cases h0 : x.pc = y.pc
  · by_cases h1 : regs x.g = regs y.g
    · by_cases h2 : x.mem = y.mem
      · by_cases h3 : x.rd = y.rd
        · by_cases h4 : x.out = y.out
          · by_cases h5 : x.st = y.st
            · by_cases h6 : x.en = y.en
              · rw [decide_eq_true h1] at q16
                have e0 := beq_iff_eq.2 h0
                rw [decide_eq_true (show x.eqv y from ⟨h0, h1, h2, h3, h4, h5, h6⟩)]
                rw [decide_eq_true h2] at cw
                have CW := Lib.hid cw
                clear cw
                have e3 := beq_iff_eq.2 h3
                have e5 := beq_iff_eq.2 h5
                have e6 := beq_iff_eq.2 h6
                have e4 := str_eq h4
                clear h0 h1 h2 h3 h4 h5 h6
                go_enter Tryd.func17, Tryd.ntmps17
                go_wp2_with (first
                  | (refine wpList_load_midg (by rfl) 28 _ rfl _ 1 rfl _ _ a1.out Tryd.underlying28 rfl (info16' _) ?_)
                  | (refine wpList_load_midg (by rfl) 28 _ rfl _ 1 rfl _ _ b1.out Tryd.underlying28 rfl (info16' _) ?_)
                  | fail)
                refine CW.out.mono ?_
                rintro e w1 ⟨rfl, hbe⟩
                replace HK := Lib.hid (HK.out.after hbe)
                clear hbe a0 b0 a1 b1 a2 b2 q16
                have a3 := row_cell (HK.out.at 0 rfl) 18 (stc_rd _ _ _ _ _ _ _)
                have b3 := row_cell (HK.out.at 1 rfl) 18 (stc_rd _ _ _ _ _ _ _)
                have a4 := row_cell (HK.out.at 0 rfl) 19 (stc_out _ _ _ _ _ _ _)
                have b4 := row_cell (HK.out.at 1 rfl) 19 (stc_out _ _ _ _ _ _ _)
                have a5 := row_cell (HK.out.at 0 rfl) 20 (stc_st _ _ _ _ _ _ _)
                have b5 := row_cell (HK.out.at 1 rfl) 20 (stc_st _ _ _ _ _ _ _)
                have a6 := row_cell (HK.out.at 0 rfl) 21 (stc_en _ _ _ _ _ _ _)
                have b6 := row_cell (HK.out.at 1 rfl) 21 (stc_en _ _ _ _ _ _ _)
                go_wp2_with fail
                go_ret
                exact ⟨rfl, HK.out.be.plain⟩
              · rw [decide_eq_true h1] at q16
                have e0 := beq_iff_eq.2 h0
                rw [decide_eq_false (show ¬ x.eqv y from fun h => h6 h.2.2.2.2.2.2)]
                rw [decide_eq_true h2] at cw
                have CW := Lib.hid cw
                clear cw
                have e3 := beq_iff_eq.2 h3
                have e5 := beq_iff_eq.2 h5
                have e6 := beq_eq_false_iff_ne.2 h6
                have e4 := str_eq h4
                clear h0 h1 h2 h3 h4 h5 h6
                go_enter Tryd.func17, Tryd.ntmps17
                go_wp2_with (first
                  | (refine wpList_load_midg (by rfl) 28 _ rfl _ 1 rfl _ _ a1.out Tryd.underlying28 rfl (info16' _) ?_)
                  | (refine wpList_load_midg (by rfl) 28 _ rfl _ 1 rfl _ _ b1.out Tryd.underlying28 rfl (info16' _) ?_)
                  | fail)
                refine CW.out.mono ?_
                rintro e w1 ⟨rfl, hbe⟩
                replace HK := Lib.hid (HK.out.after hbe)
                clear hbe a0 b0 a1 b1 a2 b2 q16
                have a3 := row_cell (HK.out.at 0 rfl) 18 (stc_rd _ _ _ _ _ _ _)
                have b3 := row_cell (HK.out.at 1 rfl) 18 (stc_rd _ _ _ _ _ _ _)
                have a4 := row_cell (HK.out.at 0 rfl) 19 (stc_out _ _ _ _ _ _ _)
                have b4 := row_cell (HK.out.at 1 rfl) 19 (stc_out _ _ _ _ _ _ _)
                have a5 := row_cell (HK.out.at 0 rfl) 20 (stc_st _ _ _ _ _ _ _)
                have b5 := row_cell (HK.out.at 1 rfl) 20 (stc_st _ _ _ _ _ _ _)
                have a6 := row_cell (HK.out.at 0 rfl) 21 (stc_en _ _ _ _ _ _ _)
                have b6 := row_cell (HK.out.at 1 rfl) 21 (stc_en _ _ _ _ _ _ _)
                go_wp2_with fail
                go_ret
                exact ⟨rfl, HK.out.be.plain⟩
            · rw [decide_eq_true h1] at q16
              have e0 := beq_iff_eq.2 h0
              rw [decide_eq_false (show ¬ x.eqv y from fun h => h5 h.2.2.2.2.2.1)]
              rw [decide_eq_true h2] at cw
              have CW := Lib.hid cw
              clear cw
              have e3 := beq_iff_eq.2 h3
              have e5 := beq_eq_false_iff_ne.2 h5
              have e4 := str_eq h4
              clear h0 h1 h2 h3 h4 h5
              go_enter Tryd.func17, Tryd.ntmps17
              go_wp2_with (first
                | (refine wpList_load_midg (by rfl) 28 _ rfl _ 1 rfl _ _ a1.out Tryd.underlying28 rfl (info16' _) ?_)
                | (refine wpList_load_midg (by rfl) 28 _ rfl _ 1 rfl _ _ b1.out Tryd.underlying28 rfl (info16' _) ?_)
                | fail)
              refine CW.out.mono ?_
              rintro e w1 ⟨rfl, hbe⟩
              replace HK := Lib.hid (HK.out.after hbe)
              clear hbe a0 b0 a1 b1 a2 b2 q16
              have a3 := row_cell (HK.out.at 0 rfl) 18 (stc_rd _ _ _ _ _ _ _)
              have b3 := row_cell (HK.out.at 1 rfl) 18 (stc_rd _ _ _ _ _ _ _)
              have a4 := row_cell (HK.out.at 0 rfl) 19 (stc_out _ _ _ _ _ _ _)
              have b4 := row_cell (HK.out.at 1 rfl) 19 (stc_out _ _ _ _ _ _ _)
              have a5 := row_cell (HK.out.at 0 rfl) 20 (stc_st _ _ _ _ _ _ _)
              have b5 := row_cell (HK.out.at 1 rfl) 20 (stc_st _ _ _ _ _ _ _)
              have a6 := row_cell (HK.out.at 0 rfl) 21 (stc_en _ _ _ _ _ _ _)
              have b6 := row_cell (HK.out.at 1 rfl) 21 (stc_en _ _ _ _ _ _ _)
              go_wp2_with fail
              go_ret
              exact ⟨rfl, HK.out.be.plain⟩
          · rw [decide_eq_true h1] at q16
            have e0 := beq_iff_eq.2 h0
            rw [decide_eq_false (show ¬ x.eqv y from fun h => h4 h.2.2.2.2.1)]
            rw [decide_eq_true h2] at cw
            have CW := Lib.hid cw
            clear cw
            have e3 := beq_iff_eq.2 h3
            have e4 := str_ne h4
            clear h0 h1 h2 h3 h4
            go_enter Tryd.func17, Tryd.ntmps17
            go_wp2_with (first
              | (refine wpList_load_midg (by rfl) 28 _ rfl _ 1 rfl _ _ a1.out Tryd.underlying28 rfl (info16' _) ?_)
              | (refine wpList_load_midg (by rfl) 28 _ rfl _ 1 rfl _ _ b1.out Tryd.underlying28 rfl (info16' _) ?_)
              | fail)
            refine CW.out.mono ?_
            rintro e w1 ⟨rfl, hbe⟩
            replace HK := Lib.hid (HK.out.after hbe)
            clear hbe a0 b0 a1 b1 a2 b2 q16
            have a3 := row_cell (HK.out.at 0 rfl) 18 (stc_rd _ _ _ _ _ _ _)
            have b3 := row_cell (HK.out.at 1 rfl) 18 (stc_rd _ _ _ _ _ _ _)
            have a4 := row_cell (HK.out.at 0 rfl) 19 (stc_out _ _ _ _ _ _ _)
            have b4 := row_cell (HK.out.at 1 rfl) 19 (stc_out _ _ _ _ _ _ _)
            have a5 := row_cell (HK.out.at 0 rfl) 20 (stc_st _ _ _ _ _ _ _)
            have b5 := row_cell (HK.out.at 1 rfl) 20 (stc_st _ _ _ _ _ _ _)
            have a6 := row_cell (HK.out.at 0 rfl) 21 (stc_en _ _ _ _ _ _ _)
            have b6 := row_cell (HK.out.at 1 rfl) 21 (stc_en _ _ _ _ _ _ _)
            go_wp2_with fail
            go_ret
            exact ⟨rfl, HK.out.be.plain⟩
        · rw [decide_eq_true h1] at q16
          have e0 := beq_iff_eq.2 h0
          rw [decide_eq_false (show ¬ x.eqv y from fun h => h3 h.2.2.2.1)]
          rw [decide_eq_true h2] at cw
          have CW := Lib.hid cw
          clear cw
          have e3 := beq_eq_false_iff_ne.2 h3
          clear h0 h1 h2 h3
          go_enter Tryd.func17, Tryd.ntmps17
          go_wp2_with (first
            | (refine wpList_load_midg (by rfl) 28 _ rfl _ 1 rfl _ _ a1.out Tryd.underlying28 rfl (info16' _) ?_)
            | (refine wpList_load_midg (by rfl) 28 _ rfl _ 1 rfl _ _ b1.out Tryd.underlying28 rfl (info16' _) ?_)
            | fail)
          refine CW.out.mono ?_
          rintro e w1 ⟨rfl, hbe⟩
          replace HK := Lib.hid (HK.out.after hbe)
          clear hbe a0 b0 a1 b1 a2 b2 q16
          have a3 := row_cell (HK.out.at 0 rfl) 18 (stc_rd _ _ _ _ _ _ _)
          have b3 := row_cell (HK.out.at 1 rfl) 18 (stc_rd _ _ _ _ _ _ _)
          have a4 := row_cell (HK.out.at 0 rfl) 19 (stc_out _ _ _ _ _ _ _)
          have b4 := row_cell (HK.out.at 1 rfl) 19 (stc_out _ _ _ _ _ _ _)
          have a5 := row_cell (HK.out.at 0 rfl) 20 (stc_st _ _ _ _ _ _ _)
          have b5 := row_cell (HK.out.at 1 rfl) 20 (stc_st _ _ _ _ _ _ _)
          have a6 := row_cell (HK.out.at 0 rfl) 21 (stc_en _ _ _ _ _ _ _)
          have b6 := row_cell (HK.out.at 1 rfl) 21 (stc_en _ _ _ _ _ _ _)
          go_wp2_with fail
          go_ret
          exact ⟨rfl, HK.out.be.plain⟩
      · rw [decide_eq_true h1] at q16
        have e0 := beq_iff_eq.2 h0
        rw [decide_eq_false (show ¬ x.eqv y from fun h => h2 h.2.2.1)]
        rw [decide_eq_false h2] at cw
        have CW := Lib.hid cw
        clear cw
        clear h0 h1 h2
        go_enter Tryd.func17, Tryd.ntmps17
        go_wp2_with (first
          | (refine wpList_load_midg (by rfl) 28 _ rfl _ 1 rfl _ _ a1.out Tryd.underlying28 rfl (info16' _) ?_)
          | (refine wpList_load_midg (by rfl) 28 _ rfl _ 1 rfl _ _ b1.out Tryd.underlying28 rfl (info16' _) ?_)
          | fail)
        refine CW.out.mono ?_
        rintro e w1 ⟨rfl, hbe⟩
        replace HK := Lib.hid (HK.out.after hbe)
        clear hbe a0 b0 a1 b1 a2 b2 q16
        have a3 := row_cell (HK.out.at 0 rfl) 18 (stc_rd _ _ _ _ _ _ _)
        have b3 := row_cell (HK.out.at 1 rfl) 18 (stc_rd _ _ _ _ _ _ _)
        have a4 := row_cell (HK.out.at 0 rfl) 19 (stc_out _ _ _ _ _ _ _)
        have b4 := row_cell (HK.out.at 1 rfl) 19 (stc_out _ _ _ _ _ _ _)
        have a5 := row_cell (HK.out.at 0 rfl) 20 (stc_st _ _ _ _ _ _ _)
        have b5 := row_cell (HK.out.at 1 rfl) 20 (stc_st _ _ _ _ _ _ _)
        have a6 := row_cell (HK.out.at 0 rfl) 21 (stc_en _ _ _ _ _ _ _)
        have b6 := row_cell (HK.out.at 1 rfl) 21 (stc_en _ _ _ _ _ _ _)
        go_wp2_with fail
        go_ret
        exact ⟨rfl, HK.out.be.plain⟩
    · rw [decide_eq_false h1] at q16
      have e0 := beq_iff_eq.2 h0
      rw [decide_eq_false (show ¬ x.eqv y from fun h => h1 h.2.1)]
      clear cw
      clear h0 h1
      go_enter Tryd.func17, Tryd.ntmps17
      go_wp2_with (first
        | (refine wpList_load_midg (by rfl) 28 _ rfl _ 1 rfl _ _ a1.out Tryd.underlying28 rfl (info16' _) ?_)
        | (refine wpList_load_midg (by rfl) 28 _ rfl _ 1 rfl _ _ b1.out Tryd.underlying28 rfl (info16' _) ?_)
        | fail)
      go_ret
      exact ⟨rfl, HK.out.be.plain⟩
  · have e0 := beq_eq_false_iff_ne.2 h0
    rw [decide_eq_false (show ¬ x.eqv y from fun h => h0 h.1)]
    clear cw
    clear h0
    go_enter Tryd.func17, Tryd.ntmps17
    go_wp2_with (first
      | (refine wpList_load_midg (by rfl) 28 _ rfl _ 1 rfl _ _ a1.out Tryd.underlying28 rfl (info16' _) ?_)
      | (refine wpList_load_midg (by rfl) 28 _ rfl _ 1 rfl _ _ b1.out Tryd.underlying28 rfl (info16' _) ?_)
      | fail)
    go_ret
    exact ⟨rfl, HK.out.be.plain⟩
end Go.Proofs.YtgojpflkhnaedaaDoor
