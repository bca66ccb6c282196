/- Layer 9 (machine), the program's code: load, store. -/
import Derived.Test.YtgojpflkhnaedaaDoorMcsA
set_option linter.unusedVariables false
namespace Go.Proofs.YtgojpflkhnaedaaDoor
open Go.RowKit

set_option maxRecDepth 100000 in
set_option maxHeartbeats 4000000 in
theorem load9_yes (pc : Int) (g : Nat → Int) (A : Option Addr) (n c : Nat) (rd : Int) (out : ByteArray) (st en : Int) {o : Int} {a b : Nat} {cc : Int} {M : Option Addr} {m k : Nat} {l : List Int} (w : World) (ha : a < 16) (hb : b < 16) (hbv : 0 ≤ g b ∧ g b < 4294967296) (hcc : 0 ≤ cc ∧ cc ≤ 65535) (hR : Rd w M m l) (hm : m ≤ 1073741824) (hh : whs l (g b) cc = true) :
    Calls Tryd.prog 35 #[.agg (stc pc g (.slice A n c) rd out st en), .agg #[.int .i64 o, .int .i64 (a : Int), .int .i64 (b : Int), .int .i64 cc], .slice M m k] w fun e w' => e = .returned (.tuple #[.agg (stc pc (gset g a (wof l (g b) cc)) (.slice A n c) rd out st en), .int .i64 0]) ∧ Below w.heap.size w w' := by
  have hl := hR.1
  have hwr := wat_range (g b) cc
  obtain ⟨t, ht⟩ : ∃ t, wat (g b) cc = t := ⟨_, rfl⟩
  rw [ht] at hwr
  rw [show wof l (g b) cc = l.getD t.toNat 0 from by unfold wof; rw [if_pos hh, ht]]
  unfold whs at hh
  rw [ht, hl] at hh
  have htm : t < (m : Int) := of_decide_eq_true hh
  obtain ⟨j, rfl⟩ : ∃ j : Nat, t = (j : Int) := ⟨t.toNat, by omega⟩
  rw [Int.toNat_natCast]
  have hj : j < m := by omega
  have j0 : (0 : Int) ≤ (j : Int) := by omega
  obtain ⟨bk, off, rfl, hcell⟩ := hR.cell hj
  obtain ⟨x, hx⟩ : ∃ x, l.getD j 0 = x := ⟨_, rfl⟩
  rw [hx] at hcell ⊢
  have hb0 : bk < w.heap.size := by
    rcases hR.2.1 with h0 | ⟨b2, o2, e2, hlt, _⟩
    · omega
    · injection e2 with e2
      injection e2 with e2 _ _
      rw [e2]; exact hlt
  have cp := fun w => place9 pc g A n c rd out st en (o := o) (a := a) (b := b) (cc := cc) (some ⟨bk, off, none⟩) m k (j : Int) _ w hb hcc hm ht hh
  have CP := Lib.hid cp
  have hk := (((Kx.nil none w).more (.cells (stc pc g (.slice A n c) rd out st en) 30 (0, 0))).add (w.heap.size + 1) (by simp) (.cells #[.int .i64 o, .int .i64 (a : Int), .int .i64 (b : Int), .int .i64 cc] 40 (0, 0))).add (w.heap.size + 1 + 1) (by simp) (.cells #[.int .i64 0, .int .u32 0, .int .u32 0, .int .u32 0, .int .u32 0, .int .u32 0, .int .u32 0, .int .u32 0, .int .u32 0, .int .u32 0, .int .u32 0, .int .u32 0, .int .u32 0, .int .u32 0, .int .u32 0, .int .u32 0, .int .u32 0, .slice none 0 0, .int .i64 0, .string ⟨#[]⟩, .int .i64 0, .int .i64 0] 30 (0, 0))
  obtain ⟨W0, hW0⟩ : ∃ W, ((w.alloc (.cells (stc pc g (.slice A n c) rd out st en) 30 (0, 0))).alloc (.cells #[.int .i64 o, .int .i64 (a : Int), .int .i64 (b : Int), .int .i64 cc] 40 (0, 0))).alloc (.cells #[.int .i64 0, .int .u32 0, .int .u32 0, .int .u32 0, .int .u32 0, .int .u32 0, .int .u32 0, .int .u32 0, .int .u32 0, .int .u32 0, .int .u32 0, .int .u32 0, .int .u32 0, .int .u32 0, .int .u32 0, .int .u32 0, .int .u32 0, .slice none 0 0, .int .i64 0, .string ⟨#[]⟩, .int .i64 0, .int .i64 0] 30 (0, 0)) = W := ⟨_, rfl⟩
  rw [hW0] at hk
  have g0 := Lib.hid (hk.at 0 rfl)
  have gi := Lib.hid (hk.at 1 rfl)
  have HK := Lib.hid hk
  have HC := Lib.hid (show W0.cell? ⟨bk, off + j, none⟩ = some (.int .u32 x) from (hk.be.plain.cell (p := ⟨bk, off + j, none⟩) hb0).trans hcell)
  clear hk cp hcell hx hh ht hR
  go_enter Tryd.func35, Tryd.ntmps35
  go_upto_region 1 with fail
  go_wp2_with (first
    | (refine wpList_load_row rfl 30 _ rfl _ rfl 30 _ _ _ g0.out Tryd.underlying30 rfl (infoS2 rfl) ?_)
    | (refine wpList_load_row rfl 40 _ rfl _ rfl 40 _ _ _ gi.out Tryd.underlying40 rfl (infoI2 rfl) ?_)
    | fail)
  refine (CP.out _).mono ?_
  rintro e w2 ⟨rfl, hb2⟩
  have kz := HK.out.after hb2
  have zc := (hb2.cell (p := ⟨bk, off + j, none⟩) (Nat.lt_of_lt_of_le hb0 HK.out.be.size)).trans HC.out
  have y1 := row_cell (kz.at 1 rfl) 1 (v := .int .i64 (a : Int)) rfl
  have za := row_cell (kz.drew.at 0 rfl) (1 + a) (stc_get pc g (.slice A n c) rd out st en a ha)
  have fa := row_froz (kz.drew.at 0 rfl) (1 + a)
  have a0 : (0 : Int) ≤ (a : Int) := by omega
  have a1 : (a : Int) < 16 := by omega
  have k1 := (kz.putc 0 rfl (.inr (Nat.le_refl _)) (1 + a) (.int .u32 x) (stc_set pc g (.slice A n c) rd out st en a ha x)).drew
  have hz := k1.putRow 2 rfl (.inr (by omega)) (stc pc (gset g a x) (.slice A n c) rd out st en)
  replace g0 := Lib.hid (k1.at 0 rfl)
  have g1 := Lib.hid (k1.at 2 rfl)
  have g2 := Lib.hid (hz.at 2 rfl)
  have HB := Lib.hid hz.be.plain
  have S1 : Hid ((stc pc (gset g a x) (.slice A n c) rd out st en).all (·.oneCell') = true) := Lib.hid (stc_one _ _ _ _ _ _ _ _ _)
  clear kz k1 hz hb2
  go_upto_region 4 with fail
  refine wp_region_still_tail 8 (by kernel_rfl) (by kernel_rfl) ?_
  simp only [List.take_succ_cons, List.take_zero, List.drop_succ_cons, List.drop_zero]
  repeat still_step
  refine wpStill_nil ?_
  go_upto_region 5 with fail
  go_wp2_with (first
    | (refine wpList_load_row rfl 30 _ rfl _ rfl 30 _ _ _ g0.out Tryd.underlying30 rfl (infoS2 rfl) ?_)
    | (refine wpList_store_rowTo rfl 30 _ _ rfl rfl _ _ rfl rfl 30 _ g1.out (infoS2 rfl) rfl S1.out ?_)
    | fail)
  exact bodyPost_ret (results_row_tmp rfl _ _ _ 30 (stc pc (gset g a x) (.slice A n c) rd out st en) _ _ _ rfl rfl g2.out Tryd.underlying30 rfl (infoS2 rfl)) rfl ⟨rfl, HB.out⟩
set_option maxRecDepth 100000 in
set_option maxHeartbeats 4000000 in
theorem load9_no (pc : Int) (g : Nat → Int) (A : Option Addr) (n c : Nat) (rd : Int) (out : ByteArray) (st en : Int) {o : Int} {a b : Nat} {cc : Int} {M : Option Addr} {m k : Nat} {l : List Int} (w : World) (ha : a < 16) (hb : b < 16) (hbv : 0 ≤ g b ∧ g b < 4294967296) (hcc : 0 ≤ cc ∧ cc ≤ 65535) (hR : Rd w M m l) (hm : m ≤ 1073741824) (hh : whs l (g b) cc = false) :
    Calls Tryd.prog 35 #[.agg (stc pc g (.slice A n c) rd out st en), .agg #[.int .i64 o, .int .i64 (a : Int), .int .i64 (b : Int), .int .i64 cc], .slice M m k] w fun e w' => e = .returned (.tuple #[.agg (stc pc g (.slice A n c) rd out st en), .int .i64 8]) ∧ Below w.heap.size w w' := by
  have hl := hR.1
  have hwr := wat_range (g b) cc
  obtain ⟨t, ht⟩ : ∃ t, wat (g b) cc = t := ⟨_, rfl⟩
  rw [ht] at hwr
  unfold whs at hh
  rw [ht, hl] at hh
  have cp := fun w => place9 pc g A n c rd out st en (o := o) (a := a) (b := b) (cc := cc) M m k t _ w hb hcc hm ht hh
  have CP := Lib.hid cp
  have hk := (((Kx.nil none w).more (.cells (stc pc g (.slice A n c) rd out st en) 30 (0, 0))).add (w.heap.size + 1) (by simp) (.cells #[.int .i64 o, .int .i64 (a : Int), .int .i64 (b : Int), .int .i64 cc] 40 (0, 0))).add (w.heap.size + 1 + 1) (by simp) (.cells #[.int .i64 0, .int .u32 0, .int .u32 0, .int .u32 0, .int .u32 0, .int .u32 0, .int .u32 0, .int .u32 0, .int .u32 0, .int .u32 0, .int .u32 0, .int .u32 0, .int .u32 0, .int .u32 0, .int .u32 0, .int .u32 0, .int .u32 0, .slice none 0 0, .int .i64 0, .string ⟨#[]⟩, .int .i64 0, .int .i64 0] 30 (0, 0))
  obtain ⟨W0, hW0⟩ : ∃ W, ((w.alloc (.cells (stc pc g (.slice A n c) rd out st en) 30 (0, 0))).alloc (.cells #[.int .i64 o, .int .i64 (a : Int), .int .i64 (b : Int), .int .i64 cc] 40 (0, 0))).alloc (.cells #[.int .i64 0, .int .u32 0, .int .u32 0, .int .u32 0, .int .u32 0, .int .u32 0, .int .u32 0, .int .u32 0, .int .u32 0, .int .u32 0, .int .u32 0, .int .u32 0, .int .u32 0, .int .u32 0, .int .u32 0, .int .u32 0, .int .u32 0, .slice none 0 0, .int .i64 0, .string ⟨#[]⟩, .int .i64 0, .int .i64 0] 30 (0, 0)) = W := ⟨_, rfl⟩
  rw [hW0] at hk
  have g0 := Lib.hid (hk.at 0 rfl)
  have gi := Lib.hid (hk.at 1 rfl)
  have HK := Lib.hid hk
  clear hk cp hh ht hR
  go_enter Tryd.func35, Tryd.ntmps35
  go_upto_region 1 with fail
  go_wp2_with (first
    | (refine wpList_load_row rfl 30 _ rfl _ rfl 30 _ _ _ g0.out Tryd.underlying30 rfl (infoS2 rfl) ?_)
    | (refine wpList_load_row rfl 40 _ rfl _ rfl 40 _ _ _ gi.out Tryd.underlying40 rfl (infoI2 rfl) ?_)
    | fail)
  refine (CP.out _).mono ?_
  rintro e w2 ⟨rfl, hb2⟩
  have kz := HK.out.after hb2
  have hz := kz.putRow 2 rfl (.inr (by omega)) (stc pc g (.slice A n c) rd out st en)
  replace g0 := Lib.hid (kz.at 0 rfl)
  have g1 := Lib.hid (kz.at 2 rfl)
  have g2 := Lib.hid (hz.at 2 rfl)
  have HB := Lib.hid hz.be.plain
  have S1 : Hid ((stc pc g (.slice A n c) rd out st en).all (·.oneCell') = true) := Lib.hid (stc_one _ _ _ _ _ _ _ _ _)
  clear kz hz hb2
  go_upto_region 3 with fail
  go_wp2_with (first
    | (refine wpList_load_row rfl 30 _ rfl _ rfl 30 _ _ _ g0.out Tryd.underlying30 rfl (infoS2 rfl) ?_)
    | (refine wpList_store_rowTo rfl 30 _ _ rfl rfl _ _ rfl rfl 30 _ g1.out (infoS2 rfl) rfl S1.out ?_)
    | fail)
  exact bodyPost_ret (results_row_tmp rfl _ _ _ 30 (stc pc g (.slice A n c) rd out st en) _ _ _ rfl rfl g2.out Tryd.underlying30 rfl (infoS2 rfl)) rfl ⟨rfl, HB.out⟩
set_option maxRecDepth 100000 in
set_option maxHeartbeats 4000000 in
theorem store9_yes (pc : Int) (g : Nat → Int) (A : Option Addr) (n c : Nat) (rd : Int) (out : ByteArray) (st en : Int) {o : Int} {a b : Nat} {cc : Int} {l : List Int} (w : World) (ha : a < 16) (hb : b < 16) (hbv : 0 ≤ g b ∧ g b < 4294967296) (hcc : 0 ≤ cc ∧ cc ≤ 65535) (hav : 0 ≤ g a ∧ g a < 4294967296) (hR : Rd w A n l) (hm : n ≤ 1073741824) (hh : whs l (g b) cc = true) :
    Calls Tryd.prog 36 #[.agg (stc pc g (.slice A n c) rd out st en), .agg #[.int .i64 o, .int .i64 (a : Int), .int .i64 (b : Int), .int .i64 cc]] w fun e w' => ∃ q cap, w.heap.size ≤ q ∧ e = .returned (.tuple #[.agg (stc pc g (.slice (some ⟨q, 0, none⟩) n cap) rd out st en), .int .i64 0]) ∧ Rd w' (some ⟨q, 0, none⟩) n (l.set (wat (g b) cc).toNat (g a)) ∧ n ≤ cap ∧ cap ≤ maxLen ∧ Below w.heap.size w w' := by
  have hl := hR.1
  have hwr := wat_range (g b) cc
  obtain ⟨t, ht⟩ : ∃ t, wat (g b) cc = t := ⟨_, rfl⟩
  rw [ht] at hwr
  unfold whs at hh
  rw [ht, hl] at hh
  have htm : t < (n : Int) := of_decide_eq_true hh
  rw [ht]
  obtain ⟨j, rfl⟩ : ∃ j : Nat, t = (j : Int) := ⟨t.toNat, by omega⟩
  rw [Int.toNat_natCast]
  have hj : j < n := by omega
  have j0 : (0 : Int) ≤ (j : Int) := by omega
  have hcl := fun W (h : Rd W A n l) => clone9 (c := c) W h hm (by omega)
  have HW : Hid (W32s l) := Lib.hid (rd_w32s hR)
  have cp := fun w => place9 pc g A n c rd out st en (o := o) (a := a) (b := b) (cc := cc) A n c (j : Int) _ w hb hcc hm ht hh
  have CP := Lib.hid cp
  have hk := (((Kx.nil none w).more (.cells (stc pc g (.slice A n c) rd out st en) 30 (0, 0))).add (w.heap.size + 1) (by simp) (.cells #[.int .i64 o, .int .i64 (a : Int), .int .i64 (b : Int), .int .i64 cc] 40 (0, 0))).add (w.heap.size + 1 + 1) (by simp) (.cells #[.int .i64 0, .int .u32 0, .int .u32 0, .int .u32 0, .int .u32 0, .int .u32 0, .int .u32 0, .int .u32 0, .int .u32 0, .int .u32 0, .int .u32 0, .int .u32 0, .int .u32 0, .int .u32 0, .int .u32 0, .int .u32 0, .int .u32 0, .slice none 0 0, .int .i64 0, .string ⟨#[]⟩, .int .i64 0, .int .i64 0] 30 (0, 0))
  obtain ⟨W0, hW0⟩ : ∃ W, ((w.alloc (.cells (stc pc g (.slice A n c) rd out st en) 30 (0, 0))).alloc (.cells #[.int .i64 o, .int .i64 (a : Int), .int .i64 (b : Int), .int .i64 cc] 40 (0, 0))).alloc (.cells #[.int .i64 0, .int .u32 0, .int .u32 0, .int .u32 0, .int .u32 0, .int .u32 0, .int .u32 0, .int .u32 0, .int .u32 0, .int .u32 0, .int .u32 0, .int .u32 0, .int .u32 0, .int .u32 0, .int .u32 0, .int .u32 0, .int .u32 0, .slice none 0 0, .int .i64 0, .string ⟨#[]⟩, .int .i64 0, .int .i64 0] 30 (0, 0)) = W := ⟨_, rfl⟩
  rw [hW0] at hk
  have c1 := row_cell (hk.at 0 rfl) 17 (stc_mem pc g (.slice A n c) rd out st en)
  have g0 := Lib.hid (hk.at 0 rfl)
  have gi := Lib.hid (hk.at 1 rfl)
  have HK := Lib.hid hk
  have HR := Lib.hid (hR.below hk.be.plain)
  have CL := Lib.hid hcl
  clear hk cp hh ht hR hcl
  go_enter Tryd.func36, Tryd.ntmps36
  go_upto_region 1 with fail
  go_wp2_with (first
    | (refine wpList_load_row rfl 30 _ rfl _ rfl 30 _ _ _ g0.out Tryd.underlying30 rfl (infoS2 rfl) ?_)
    | (refine wpList_load_row rfl 40 _ rfl _ rfl 40 _ _ _ gi.out Tryd.underlying40 rfl (infoI2 rfl) ?_)
    | fail)
  refine (CP.out _).mono ?_
  rintro e w2 ⟨rfl, hb2⟩
  have kz := HK.out.after hb2
  clear c1
  have c2 := row_cell (kz.at 0 rfl) 17 (stc_mem pc g (.slice A n c) rd out st en)
  have HR2 := Lib.hid (HR.out.below hb2)
  replace HK := Lib.hid kz
  clear kz hb2
  go_upto_region 4 with fail
  go_wp2_with fail
  refine (CL.out _ HR2.out).mono ?_
  rintro e w3 ⟨q, cap, rfl, hq, cur, hcur, h1, h2, h4, hb3⟩
  have kz := HK.out.after hb3
  have hqw : w.heap.size ≤ q := Nat.le_trans HK.out.be.size hq
  have k2 : Kx none w w3 [(w.heap.size, .cells (stc pc g (.slice A n c) rd out st en) 30 (0, 0)), (w.heap.size + 1, .cells #[.int .i64 o, .int .i64 (a : Int), .int .i64 (b : Int), .int .i64 cc] 40 (0, 0)), (w.heap.size + 1 + 1, .cells #[.int .i64 0, .int .u32 0, .int .u32 0, .int .u32 0, .int .u32 0, .int .u32 0, .int .u32 0, .int .u32 0, .int .u32 0, .int .u32 0, .int .u32 0, .int .u32 0, .int .u32 0, .int .u32 0, .int .u32 0, .int .u32 0, .int .u32 0, .slice none 0 0, .int .i64 0, .string ⟨#[]⟩, .int .i64 0, .int .i64 0] 30 (0, 0)), (q, .cells cur 27 (0, 0))] := by
    refine ⟨fun x hx => ?_, ?_, kz.be⟩
    · simp only [List.mem_cons, List.not_mem_nil, or_false] at hx
      rcases hx with rfl | rfl | rfl | rfl
      · exact kz.all _ (by simp)
      · exact kz.all _ (by simp)
      · exact kz.all _ (by simp)
      · exact ⟨hcur, (Array.getElem?_eq_some_iff.1 hcur).1⟩
    · have e0 := HK.out.lt 0 rfl
      have e1 := HK.out.lt 1 rfl
      have e2 := HK.out.lt 2 rfl
      simp only [List.map_cons, List.map_nil, List.nodup_cons, List.mem_cons, List.not_mem_nil, or_false, not_or, List.nodup_nil, not_false_eq_true, and_true]
      omega
  have hcj : cur[j]? = some (.int .u32 (l.getD j 0)) := by
    have h3 : cur.toList[j]? = (l.map (Value.int .u32))[j]? := by rw [← h4, List.getElem?_take, if_pos hj]
    rw [← Array.getElem?_toList, h3, List.getElem?_map, List.getD_eq_getElem?_getD, List.getElem?_eq_getElem (show j < l.length by omega)]
    rfl
  have k3 := k2.putc 0 rfl (.inr (Nat.le_refl _)) 17 (.slice (some ⟨q, 0, none⟩) n cap) (set_mem pc g (.slice A n c) rd out st en (.slice (some ⟨q, 0, none⟩) n cap))
  have k4 := (k3.putc 3 rfl (.inr hqw) j (.int .u32 (g a)) rfl).drew
  have d1 := row_cell (k2.at 0 rfl) 17 (stc_mem pc g (.slice A n c) rd out st en)
  have e1 := row_froz (k2.at 0 rfl) 17
  obtain ⟨w4, hw4⟩ : ∃ W, w3.setCell ⟨w.heap.size, 17, none⟩ (.slice (some ⟨q, 0, none⟩) n cap) = W := ⟨_, rfl⟩
  rw [hw4] at k3 k4
  have d2 := row_cell (k3.at 0 rfl) 17 (stc_mem pc g (.slice (some ⟨q, 0, none⟩) n cap) rd out st en)
  have y1 := row_cell (k3.at 1 rfl) 1 (v := .int .i64 (a : Int)) rfl
  have za := row_cell (k3.at 0 rfl) (1 + a) (stc_get pc g (.slice (some ⟨q, 0, none⟩) n cap) rd out st en a ha)
  have d3 := row_cell (k3.drew.at 3 rfl) j hcj
  have e3 := row_froz (k3.drew.at 3 rfl) j
  have a0 : (0 : Int) ≤ (a : Int) := by omega
  have a1 : (a : Int) < 16 := by omega
  have hz := k4.putRow 2 rfl (.inr (by omega)) (stc pc g (.slice (some ⟨q, 0, none⟩) n cap) rd out st en)
  replace g0 := Lib.hid (k4.at 0 rfl)
  have g1 := Lib.hid (k4.at 2 rfl)
  have g2 := Lib.hid (hz.at 2 rfl)
  have HB := Lib.hid hz.be.plain
  have S1 : Hid ((stc pc g (.slice (some ⟨q, 0, none⟩) n cap) rd out st en).all (·.oneCell') = true) := Lib.hid (stc_one _ _ _ _ _ _ _ _ _)
  have hrd := Lib.hid (rd_blk (hz.at 3 rfl) (set_take (g a) h4) (by rw [List.length_set]; exact hl) (w32_set HW.out hav))
  clear kz k2 k3 k4 hz hb3 h4 hcj hcur c2
  go_upto_region 5 with fail
  refine wp_region_still_tail 9 (by kernel_rfl) (by kernel_rfl) ?_
  simp only [List.take_succ_cons, List.take_zero, List.drop_succ_cons, List.drop_zero]
  repeat still_step
  refine wpStill_nil ?_
  go_upto_region 6 with fail
  go_wp2_with (first
    | (refine wpList_load_row rfl 30 _ rfl _ rfl 30 _ _ _ g0.out Tryd.underlying30 rfl (infoS2 rfl) ?_)
    | (refine wpList_store_rowTo rfl 30 _ _ rfl rfl _ _ rfl rfl 30 _ g1.out (infoS2 rfl) rfl S1.out ?_)
    | fail)
  exact bodyPost_ret (results_row_tmp rfl _ _ _ 30 (stc pc g (.slice (some ⟨q, 0, none⟩) n cap) rd out st en) _ _ _ rfl rfl g2.out Tryd.underlying30 rfl (infoS2 rfl)) rfl ⟨q, cap, hqw, rfl, hrd.out, h1, h2, HB.out⟩
set_option maxRecDepth 100000 in
set_option maxHeartbeats 4000000 in
theorem store9_no (pc : Int) (g : Nat → Int) (A : Option Addr) (n c : Nat) (rd : Int) (out : ByteArray) (st en : Int) {o : Int} {a b : Nat} {cc : Int} {l : List Int} (w : World) (ha : a < 16) (hb : b < 16) (hbv : 0 ≤ g b ∧ g b < 4294967296) (hcc : 0 ≤ cc ∧ cc ≤ 65535) (hav : 0 ≤ g a ∧ g a < 4294967296) (hR : Rd w A n l) (hm : n ≤ 1073741824) (hh : whs l (g b) cc = false) :
    Calls Tryd.prog 36 #[.agg (stc pc g (.slice A n c) rd out st en), .agg #[.int .i64 o, .int .i64 (a : Int), .int .i64 (b : Int), .int .i64 cc]] w fun e w' => e = .returned (.tuple #[.agg (stc pc g (.slice A n c) rd out st en), .int .i64 8]) ∧ Below w.heap.size w w' := by
  have hl := hR.1
  have hwr := wat_range (g b) cc
  obtain ⟨t, ht⟩ : ∃ t, wat (g b) cc = t := ⟨_, rfl⟩
  rw [ht] at hwr
  unfold whs at hh
  rw [ht, hl] at hh
  have cp := fun w => place9 pc g A n c rd out st en (o := o) (a := a) (b := b) (cc := cc) A n c t _ w hb hcc hm ht hh
  have CP := Lib.hid cp
  have hk := (((Kx.nil none w).more (.cells (stc pc g (.slice A n c) rd out st en) 30 (0, 0))).add (w.heap.size + 1) (by simp) (.cells #[.int .i64 o, .int .i64 (a : Int), .int .i64 (b : Int), .int .i64 cc] 40 (0, 0))).add (w.heap.size + 1 + 1) (by simp) (.cells #[.int .i64 0, .int .u32 0, .int .u32 0, .int .u32 0, .int .u32 0, .int .u32 0, .int .u32 0, .int .u32 0, .int .u32 0, .int .u32 0, .int .u32 0, .int .u32 0, .int .u32 0, .int .u32 0, .int .u32 0, .int .u32 0, .int .u32 0, .slice none 0 0, .int .i64 0, .string ⟨#[]⟩, .int .i64 0, .int .i64 0] 30 (0, 0))
  obtain ⟨W0, hW0⟩ : ∃ W, ((w.alloc (.cells (stc pc g (.slice A n c) rd out st en) 30 (0, 0))).alloc (.cells #[.int .i64 o, .int .i64 (a : Int), .int .i64 (b : Int), .int .i64 cc] 40 (0, 0))).alloc (.cells #[.int .i64 0, .int .u32 0, .int .u32 0, .int .u32 0, .int .u32 0, .int .u32 0, .int .u32 0, .int .u32 0, .int .u32 0, .int .u32 0, .int .u32 0, .int .u32 0, .int .u32 0, .int .u32 0, .int .u32 0, .int .u32 0, .int .u32 0, .slice none 0 0, .int .i64 0, .string ⟨#[]⟩, .int .i64 0, .int .i64 0] 30 (0, 0)) = W := ⟨_, rfl⟩
  rw [hW0] at hk
  have c1 := row_cell (hk.at 0 rfl) 17 (stc_mem pc g (.slice A n c) rd out st en)
  have g0 := Lib.hid (hk.at 0 rfl)
  have gi := Lib.hid (hk.at 1 rfl)
  have HK := Lib.hid hk
  clear hk cp hh ht hR
  go_enter Tryd.func36, Tryd.ntmps36
  go_upto_region 1 with fail
  go_wp2_with (first
    | (refine wpList_load_row rfl 30 _ rfl _ rfl 30 _ _ _ g0.out Tryd.underlying30 rfl (infoS2 rfl) ?_)
    | (refine wpList_load_row rfl 40 _ rfl _ rfl 40 _ _ _ gi.out Tryd.underlying40 rfl (infoI2 rfl) ?_)
    | fail)
  refine (CP.out _).mono ?_
  rintro e w2 ⟨rfl, hb2⟩
  have kz := HK.out.after hb2
  have hz := kz.putRow 2 rfl (.inr (by omega)) (stc pc g (.slice A n c) rd out st en)
  replace g0 := Lib.hid (kz.at 0 rfl)
  have g1 := Lib.hid (kz.at 2 rfl)
  have g2 := Lib.hid (hz.at 2 rfl)
  have HB := Lib.hid hz.be.plain
  have S1 : Hid ((stc pc g (.slice A n c) rd out st en).all (·.oneCell') = true) := Lib.hid (stc_one _ _ _ _ _ _ _ _ _)
  clear kz hz hb2 c1
  go_upto_region 3 with fail
  go_wp2_with (first
    | (refine wpList_load_row rfl 30 _ rfl _ rfl 30 _ _ _ g0.out Tryd.underlying30 rfl (infoS2 rfl) ?_)
    | (refine wpList_store_rowTo rfl 30 _ _ rfl rfl _ _ rfl rfl 30 _ g1.out (infoS2 rfl) rfl S1.out ?_)
    | fail)
  exact bodyPost_ret (results_row_tmp rfl _ _ _ 30 (stc pc g (.slice A n c) rd out st en) _ _ _ rfl rfl g2.out Tryd.underlying30 rfl (infoS2 rfl)) rfl ⟨rfl, HB.out⟩
end Go.Proofs.YtgojpflkhnaedaaDoor
