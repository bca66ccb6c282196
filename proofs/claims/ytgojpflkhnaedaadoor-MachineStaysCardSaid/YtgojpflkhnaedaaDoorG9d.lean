/- The reference of layer 9: a state lies in memory as a row that is known whole; end, set, jump, get. The reference of layer 9: a word of a row; a byte put out. The reference of layer 9: put, store. The reference of layer 9: Step: at its end; no place in the code; no instruction. -/
import Derived.Test.YtgojpflkhnaedaaDoorG9b
import Derived.Test.YtgojpflkhnaedaaDoorG9c
import Derived.Great.BuildSlice
import Derived.Deep.DeepCutAuto
import Derived.Deep.AppendLies
import Derived.Test.YtgojpflkhnaedaaDoorInsC
set_option linter.unusedVariables false
namespace Go.Proofs.YtgojpflkhnaedaaDoor
open Go.RowKit

set_option maxRecDepth 100000 in
set_option maxHeartbeats 2000000 in
theorem ended_ref (pc : Int) (g : Nat → Int) (A : Option Addr) (n c : Nat) (rd : Int) (out : ByteArray) (st en : Int) (e1 : Int) (w : World)  :
    Calls Tryd.prog 24 #[.agg (stc pc g (.slice A n c) rd out st en), .int .i64 e1] w fun e w' => e = .returned (.agg (stc pc g (.slice A n c) rd out st e1)) ∧ Below w.heap.size w w' := by
  have hk := ((Kx.nil none w).more (.cells (stc pc g (.slice A n c) rd out st en) 30 (0, 0))).add (w.heap.size + 1) (by simp) (.cells #[.int .i64 0, .int .u32 0, .int .u32 0, .int .u32 0, .int .u32 0, .int .u32 0, .int .u32 0, .int .u32 0, .int .u32 0, .int .u32 0, .int .u32 0, .int .u32 0, .int .u32 0, .int .u32 0, .int .u32 0, .int .u32 0, .int .u32 0, .slice none 0 0, .int .i64 0, .string ⟨#[]⟩, .int .i64 0, .int .i64 0] 30 (0, 0))
  obtain ⟨W0, hW0⟩ : ∃ W, (w.alloc (.cells (stc pc g (.slice A n c) rd out st en) 30 (0, 0))).alloc (.cells #[.int .i64 0, .int .u32 0, .int .u32 0, .int .u32 0, .int .u32 0, .int .u32 0, .int .u32 0, .int .u32 0, .int .u32 0, .int .u32 0, .int .u32 0, .int .u32 0, .int .u32 0, .int .u32 0, .int .u32 0, .int .u32 0, .int .u32 0, .slice none 0 0, .int .i64 0, .string ⟨#[]⟩, .int .i64 0, .int .i64 0] 30 (0, 0)) = W := ⟨_, rfl⟩
  rw [hW0] at hk
  have k1 := hk.putc 0 rfl (.inr (Nat.le_refl _)) 21 (.int .i64 e1) (set_en _ _ _ _ _ _ _ e1)
  have c1 := row_cell (hk.at 0 rfl) 21 (stc_en _ _ _ _ _ _ _)
  have f1 := row_froz (hk.at 0 rfl) 21
  have hz := k1.putRow 1 rfl (.inr (by omega)) (stc pc g (.slice A n c) rd out st e1)
  have g0 := Lib.hid (k1.at 0 rfl)
  have g1 := Lib.hid (k1.at 1 rfl)
  have g2 := Lib.hid (hz.at 1 rfl)
  have HB := Lib.hid hz.be.plain
  have S1 : Hid ((stc pc g (.slice A n c) rd out st e1).all (·.oneCell') = true) := Lib.hid (stc_one _ _ _ _ _ _ _ _ _)
  clear hk k1 hz
  go_enter Tryd.func24, Tryd.ntmps24
  go_upto_region 1 with fail
  go_upto_region 2 with fail
  go_wp2_with (first
    | (refine wpList_load_row rfl 30 _ rfl _ rfl 30 _ _ _ g0.out Tryd.underlying30 rfl (infoS2 rfl) ?_)
    | (refine wpList_store_rowTo rfl 30 _ _ rfl rfl _ _ rfl rfl 30 _ g1.out (infoS2 rfl) rfl S1.out ?_)
    | fail)
  exact bodyPost_ret (results_cell_row rfl _ _ _ 30 (stc pc g (.slice A n c) rd out st e1) _ _ rfl g2.out Tryd.underlying30 rfl (infoS2 rfl)) rfl ⟨rfl, HB.out⟩
set_option maxRecDepth 100000 in
set_option maxHeartbeats 2000000 in
theorem jump_ref (pc : Int) (g : Nat → Int) (A : Option Addr) (n c : Nat) (rd : Int) (out : ByteArray) (st en : Int) (t1 : Int) (w : World)  :
    Calls Tryd.prog 29 #[.agg (stc pc g (.slice A n c) rd out st en), .int .i64 t1] w fun e w' => e = .returned (.agg (stc t1 g (.slice A n c) rd out st en)) ∧ Below w.heap.size w w' := by
  have hk := ((Kx.nil none w).more (.cells (stc pc g (.slice A n c) rd out st en) 30 (0, 0))).add (w.heap.size + 1) (by simp) (.cells #[.int .i64 0, .int .u32 0, .int .u32 0, .int .u32 0, .int .u32 0, .int .u32 0, .int .u32 0, .int .u32 0, .int .u32 0, .int .u32 0, .int .u32 0, .int .u32 0, .int .u32 0, .int .u32 0, .int .u32 0, .int .u32 0, .int .u32 0, .slice none 0 0, .int .i64 0, .string ⟨#[]⟩, .int .i64 0, .int .i64 0] 30 (0, 0))
  obtain ⟨W0, hW0⟩ : ∃ W, (w.alloc (.cells (stc pc g (.slice A n c) rd out st en) 30 (0, 0))).alloc (.cells #[.int .i64 0, .int .u32 0, .int .u32 0, .int .u32 0, .int .u32 0, .int .u32 0, .int .u32 0, .int .u32 0, .int .u32 0, .int .u32 0, .int .u32 0, .int .u32 0, .int .u32 0, .int .u32 0, .int .u32 0, .int .u32 0, .int .u32 0, .slice none 0 0, .int .i64 0, .string ⟨#[]⟩, .int .i64 0, .int .i64 0] 30 (0, 0)) = W := ⟨_, rfl⟩
  rw [hW0] at hk
  have k1 := hk.putc 0 rfl (.inr (Nat.le_refl _)) 0 (.int .i64 t1) (set_pc _ _ _ _ _ _ _ t1)
  have c1 := row_cell (hk.at 0 rfl) 0 (stc_pc _ _ _ _ _ _ _)
  have f1 := row_froz (hk.at 0 rfl) 0
  have hz := k1.putRow 1 rfl (.inr (by omega)) (stc t1 g (.slice A n c) rd out st en)
  have g0 := Lib.hid (k1.at 0 rfl)
  have g1 := Lib.hid (k1.at 1 rfl)
  have g2 := Lib.hid (hz.at 1 rfl)
  have HB := Lib.hid hz.be.plain
  have S1 : Hid ((stc t1 g (.slice A n c) rd out st en).all (·.oneCell') = true) := Lib.hid (stc_one _ _ _ _ _ _ _ _ _)
  clear hk k1 hz
  go_enter Tryd.func29, Tryd.ntmps29
  go_upto_region 1 with fail
  go_upto_region 2 with fail
  go_wp2_with (first
    | (refine wpList_load_row rfl 30 _ rfl _ rfl 30 _ _ _ g0.out Tryd.underlying30 rfl (infoS2 rfl) ?_)
    | (refine wpList_store_rowTo rfl 30 _ _ rfl rfl _ _ rfl rfl 30 _ g1.out (infoS2 rfl) rfl S1.out ?_)
    | fail)
  exact bodyPost_ret (results_cell_row rfl _ _ _ 30 (stc t1 g (.slice A n c) rd out st en) _ _ rfl g2.out Tryd.underlying30 rfl (infoS2 rfl)) rfl ⟨rfl, HB.out⟩
set_option maxRecDepth 100000 in
set_option maxHeartbeats 2000000 in
theorem set_ref (pc : Int) (g : Nat → Int) (A : Option Addr) (n c : Nat) (rd : Int) (out : ByteArray) (st en : Int) (a : Nat) (x : Int) (w : World) (ha : a < 16) (hp : -4611686018427387904 ≤ pc ∧ pc ≤ 4611686018427387904) :
    Calls Tryd.prog 26 #[.agg (stc pc g (.slice A n c) rd out st en), .int .i64 (a : Int), .int .u32 x] w fun e w' => e = .returned (.agg (stc (pc + 1) (gset g a x) (.slice A n c) rd out st en)) ∧ Below w.heap.size w w' := by
  have hk := ((Kx.nil none w).more (.cells (stc pc g (.slice A n c) rd out st en) 30 (0, 0))).add (w.heap.size + 1) (by simp) (.cells #[.int .i64 0, .int .u32 0, .int .u32 0, .int .u32 0, .int .u32 0, .int .u32 0, .int .u32 0, .int .u32 0, .int .u32 0, .int .u32 0, .int .u32 0, .int .u32 0, .int .u32 0, .int .u32 0, .int .u32 0, .int .u32 0, .int .u32 0, .slice none 0 0, .int .i64 0, .string ⟨#[]⟩, .int .i64 0, .int .i64 0] 30 (0, 0))
  obtain ⟨W0, hW0⟩ : ∃ W, (w.alloc (.cells (stc pc g (.slice A n c) rd out st en) 30 (0, 0))).alloc (.cells #[.int .i64 0, .int .u32 0, .int .u32 0, .int .u32 0, .int .u32 0, .int .u32 0, .int .u32 0, .int .u32 0, .int .u32 0, .int .u32 0, .int .u32 0, .int .u32 0, .int .u32 0, .int .u32 0, .int .u32 0, .int .u32 0, .int .u32 0, .slice none 0 0, .int .i64 0, .string ⟨#[]⟩, .int .i64 0, .int .i64 0] 30 (0, 0)) = W := ⟨_, rfl⟩
  rw [hW0] at hk
  have k1 := hk.putc 0 rfl (.inr (Nat.le_refl _)) (1 + a) (.int .u32 x) (stc_set _ _ _ _ _ _ _ a ha x)
  have k2 := k1.putc 0 rfl (.inr (Nat.le_refl _)) 0 (.int .i64 (pc + 1)) (set_pc _ _ _ _ _ _ _ (pc + 1))
  have c1 := row_cell (hk.at 0 rfl) (1 + a) (stc_get pc g (.slice A n c) rd out st en a ha)
  have f1 := row_froz (hk.at 0 rfl) (1 + a)
  have c2 := row_cell (k1.at 0 rfl) 0 (stc_pc _ _ _ _ _ _ _)
  have f2 := row_froz (k1.at 0 rfl) 0
  have w1 : IntKind.i64.wrap (pc + 1) = pc + 1 := by rw [IntKind.wrap_i64]; omega
  have a0 : (0 : Int) ≤ (a : Int) := by omega
  have a1 : (a : Int) < 16 := by omega
  have hz := k2.putRow 1 rfl (.inr (by omega)) (stc (pc + 1) (gset g a x) (.slice A n c) rd out st en)
  have g0 := Lib.hid (k2.at 0 rfl)
  have g1 := Lib.hid (k2.at 1 rfl)
  have g2 := Lib.hid (hz.at 1 rfl)
  have HB := Lib.hid hz.be.plain
  have S1 : Hid ((stc (pc + 1) (gset g a x) (.slice A n c) rd out st en).all (·.oneCell') = true) := Lib.hid (stc_one _ _ _ _ _ _ _ _ _)
  clear hk k1 k2 hz
  go_enter Tryd.func26, Tryd.ntmps26
  go_upto_region 1 with fail
  go_upto_region 3 with fail
  go_wp2_with (first
    | (refine wpList_load_row rfl 30 _ rfl _ rfl 30 _ _ _ g0.out Tryd.underlying30 rfl (infoS2 rfl) ?_)
    | (refine wpList_store_rowTo rfl 30 _ _ rfl rfl _ _ rfl rfl 30 _ g1.out (infoS2 rfl) rfl S1.out ?_)
    | fail)
  exact bodyPost_ret (results_cell_row rfl _ _ _ 30 (stc (pc + 1) (gset g a x) (.slice A n c) rd out st en) _ _ rfl g2.out Tryd.underlying30 rfl (infoS2 rfl)) rfl ⟨rfl, HB.out⟩
set_option maxRecDepth 100000 in
set_option maxHeartbeats 2000000 in
theorem get_no (pc : Int) (g : Nat → Int) (A : Option Addr) (n c : Nat) (rd : Int) (out : ByteArray) (st en : Int) (inp : ByteArray) (a : Nat) (w : World) (ha : a < 16) (hp : -4611686018427387904 ≤ pc ∧ pc ≤ 4611686018427387904) (hr : ¬ (0 ≤ rd ∧ rd < (inp.size : Int))) :
    Calls Tryd.prog 30 #[.agg (stc pc g (.slice A n c) rd out st en), .string inp, .int .i64 (a : Int)] w fun e w' => e = .returned (.agg (stc (pc + 1) (gset g a 256) (.slice A n c) rd out st en)) ∧ Below w.heap.size w w' := by
  have hk := ((Kx.nil none w).more (.cells (stc pc g (.slice A n c) rd out st en) 30 (0, 0))).add (w.heap.size + 1) (by simp) (.cells #[.int .i64 0, .int .u32 0, .int .u32 0, .int .u32 0, .int .u32 0, .int .u32 0, .int .u32 0, .int .u32 0, .int .u32 0, .int .u32 0, .int .u32 0, .int .u32 0, .int .u32 0, .int .u32 0, .int .u32 0, .int .u32 0, .int .u32 0, .slice none 0 0, .int .i64 0, .string ⟨#[]⟩, .int .i64 0, .int .i64 0] 30 (0, 0))
  obtain ⟨W0, hW0⟩ : ∃ W, (w.alloc (.cells (stc pc g (.slice A n c) rd out st en) 30 (0, 0))).alloc (.cells #[.int .i64 0, .int .u32 0, .int .u32 0, .int .u32 0, .int .u32 0, .int .u32 0, .int .u32 0, .int .u32 0, .int .u32 0, .int .u32 0, .int .u32 0, .int .u32 0, .int .u32 0, .int .u32 0, .int .u32 0, .int .u32 0, .int .u32 0, .slice none 0 0, .int .i64 0, .string ⟨#[]⟩, .int .i64 0, .int .i64 0] 30 (0, 0)) = W := ⟨_, rfl⟩
  rw [hW0] at hk
  have c1 := row_cell (hk.at 0 rfl) 18 (stc_rd _ _ _ _ _ _ _)
  have g0 := Lib.hid (hk.at 0 rfl)
  have HK := Lib.hid hk
  have cs := fun w => set_ref pc g A n c rd out st en a 256 w ha hp
  have CS := Lib.hid cs
  clear hk cs
  by_cases h0 : rd < 0
  · have i1 : decide (rd < 0) = true := decide_eq_true h0
    go_enter Tryd.func30, Tryd.ntmps30
    go_upto_region 1 with fail
    go_wp2_with (first
      | (refine wpList_load_row rfl 30 _ rfl _ rfl 30 _ _ _ g0.out Tryd.underlying30 rfl (infoS2 rfl) ?_)
      | fail)
    refine (CS.out _).mono ?_
    rintro e w2 ⟨rfl, hb⟩
    have kz := HK.out.after hb
    have hz := kz.putRow 1 rfl (.inr (by omega)) (stc (pc + 1) (gset g a 256) (.slice A n c) rd out st en)
    have g1 := Lib.hid (kz.at 1 rfl)
    have g2 := Lib.hid (hz.at 1 rfl)
    have HB := Lib.hid hz.be.plain
    have S1 : Hid ((stc (pc + 1) (gset g a 256) (.slice A n c) rd out st en).all (·.oneCell') = true) := Lib.hid (stc_one _ _ _ _ _ _ _ _ _)
    clear kz hz hb
    go_wp2_with (first
      | (refine wpList_store_rowTo rfl 30 _ _ rfl rfl _ _ rfl rfl 30 _ g1.out (infoS2 rfl) rfl S1.out ?_)
      | fail)
    exact bodyPost_ret (results_cell_row rfl _ _ _ 30 (stc (pc + 1) (gset g a 256) (.slice A n c) rd out st en) _ _ rfl g2.out Tryd.underlying30 rfl (infoS2 rfl)) rfl ⟨rfl, HB.out⟩
  · have i1 : decide (rd < 0) = false := decide_eq_false h0
    have i2 : decide ((inp.size : Int) ≤ rd) = true := decide_eq_true (by omega)
    go_enter Tryd.func30, Tryd.ntmps30
    go_upto_region 1 with fail
    go_wp2_with (first
      | (refine wpList_load_row rfl 30 _ rfl _ rfl 30 _ _ _ g0.out Tryd.underlying30 rfl (infoS2 rfl) ?_)
      | fail)
    refine (CS.out _).mono ?_
    rintro e w2 ⟨rfl, hb⟩
    have kz := HK.out.after hb
    have hz := kz.putRow 1 rfl (.inr (by omega)) (stc (pc + 1) (gset g a 256) (.slice A n c) rd out st en)
    have g1 := Lib.hid (kz.at 1 rfl)
    have g2 := Lib.hid (hz.at 1 rfl)
    have HB := Lib.hid hz.be.plain
    have S1 : Hid ((stc (pc + 1) (gset g a 256) (.slice A n c) rd out st en).all (·.oneCell') = true) := Lib.hid (stc_one _ _ _ _ _ _ _ _ _)
    clear kz hz hb
    go_wp2_with (first
      | (refine wpList_store_rowTo rfl 30 _ _ rfl rfl _ _ rfl rfl 30 _ g1.out (infoS2 rfl) rfl S1.out ?_)
      | fail)
    exact bodyPost_ret (results_cell_row rfl _ _ _ 30 (stc (pc + 1) (gset g a 256) (.slice A n c) rd out st en) _ _ rfl g2.out Tryd.underlying30 rfl (infoS2 rfl)) rfl ⟨rfl, HB.out⟩
set_option maxRecDepth 100000 in
set_option maxHeartbeats 2000000 in
theorem get_yes (pc : Int) (g : Nat → Int) (A : Option Addr) (n c : Nat) (rd : Int) (out : ByteArray) (st en : Int) (inp : ByteArray) (a : Nat) (k : Nat) (u : UInt8) (w : World) (ha : a < 16) (hp : -4611686018427387904 ≤ pc ∧ pc ≤ 4611686018427387904) (hz : inp.size ≤ 1073741824) (hk : k < inp.size) (hr : rd = (k : Int)) (hu : inp[k] = u) :
    Calls Tryd.prog 30 #[.agg (stc pc g (.slice A n c) rd out st en), .string inp, .int .i64 (a : Int)] w fun e w' => e = .returned (.agg (stc (pc + 1) (gset g a (u.toNat : Int)) (.slice A n c) ((k : Int) + 1) out st en)) ∧ Below w.heap.size w w' := by
  subst hr
  have hk9 := ((Kx.nil none w).more (.cells (stc pc g (.slice A n c) (k : Int) out st en) 30 (0, 0))).add (w.heap.size + 1) (by simp) (.cells #[.int .i64 0, .int .u32 0, .int .u32 0, .int .u32 0, .int .u32 0, .int .u32 0, .int .u32 0, .int .u32 0, .int .u32 0, .int .u32 0, .int .u32 0, .int .u32 0, .int .u32 0, .int .u32 0, .int .u32 0, .int .u32 0, .int .u32 0, .slice none 0 0, .int .i64 0, .string ⟨#[]⟩, .int .i64 0, .int .i64 0] 30 (0, 0))
  obtain ⟨W0, hW0⟩ : ∃ W, (w.alloc (.cells (stc pc g (.slice A n c) (k : Int) out st en) 30 (0, 0))).alloc (.cells #[.int .i64 0, .int .u32 0, .int .u32 0, .int .u32 0, .int .u32 0, .int .u32 0, .int .u32 0, .int .u32 0, .int .u32 0, .int .u32 0, .int .u32 0, .int .u32 0, .int .u32 0, .int .u32 0, .int .u32 0, .int .u32 0, .int .u32 0, .slice none 0 0, .int .i64 0, .string ⟨#[]⟩, .int .i64 0, .int .i64 0] 30 (0, 0)) = W := ⟨_, rfl⟩
  rw [hW0] at hk9
  have k1 := hk9.putc 0 rfl (.inr (Nat.le_refl _)) 18 (.int .i64 ((k : Int) + 1)) (set_rd _ _ _ _ _ _ _ ((k : Int) + 1))
  have c1 := row_cell (hk9.at 0 rfl) 18 (stc_rd _ _ _ _ _ _ _)
  have f1 := row_froz (hk9.at 0 rfl) 18
  have g0 := Lib.hid (k1.at 0 rfl)
  have HK := Lib.hid k1
  have cs := fun w => set_ref pc g A n c ((k : Int) + 1) out st en a (u.toNat : Int) w ha hp
  have CS := Lib.hid cs
  have i0 : (0 : Int) ≤ (k : Int) := by omega
  have i1 : decide ((k : Int) < 0) = false := decide_eq_false (by omega)
  have i2 : decide ((inp.size : Int) ≤ (k : Int)) = false := decide_eq_false (by omega)
  have m1 : (u.toNat : Int) % 4294967296 = (u.toNat : Int) := by have := u.toNat_lt; omega
  have w1 : IntKind.i64.wrap ((k : Int) + 1) = (k : Int) + 1 := by rw [IntKind.wrap_i64]; omega
  clear hk9 k1 cs
  go_enter Tryd.func30, Tryd.ntmps30
  go_upto_region 1 with fail
  go_wp2_with (first
    | (refine wpList_load_row rfl 30 _ rfl _ rfl 30 _ _ _ g0.out Tryd.underlying30 rfl (infoS2 rfl) ?_)
    | fail)
  refine (CS.out _).mono ?_
  rintro e w2 ⟨rfl, hb⟩
  have kz := HK.out.after hb
  have hz := kz.putRow 1 rfl (.inr (by omega)) (stc (pc + 1) (gset g a (u.toNat : Int)) (.slice A n c) ((k : Int) + 1) out st en)
  have g1 := Lib.hid (kz.at 1 rfl)
  have g2 := Lib.hid (hz.at 1 rfl)
  have HB := Lib.hid hz.be.plain
  have S1 : Hid ((stc (pc + 1) (gset g a (u.toNat : Int)) (.slice A n c) ((k : Int) + 1) out st en).all (·.oneCell') = true) := Lib.hid (stc_one _ _ _ _ _ _ _ _ _)
  clear kz hz hb
  go_wp2_with (first
    | (refine wpList_store_rowTo rfl 30 _ _ rfl rfl _ _ rfl rfl 30 _ g1.out (infoS2 rfl) rfl S1.out ?_)
    | fail)
  exact bodyPost_ret (results_cell_row rfl _ _ _ 30 (stc (pc + 1) (gset g a (u.toNat : Int)) (.slice A n c) ((k : Int) + 1) out st en) _ _ rfl g2.out Tryd.underlying30 rfl (infoS2 rfl)) rfl ⟨rfl, HB.out⟩
end Go.Proofs.YtgojpflkhnaedaaDoor
set_option linter.unusedVariables false
namespace Go.Proofs.YtgojpflkhnaedaaDoor
open Go.RowKit

set_option maxHeartbeats 1000000 in
theorem word9_ref {A : Option Addr} {n cap : Nat} {l : List Int} (b c : Int) (w : World) (hr : Rd w A n l) (hn : n ≤ 1073741824) (hb : 0 ≤ b ∧ b < 4294967296) (hc : 0 ≤ c ∧ c ≤ 65535) :
    Calls Tryd.prog 27 #[.slice A n cap, .int .u32 b, .int .i64 c] w fun e w' => e = .returned (.tuple #[.int .u32 (wof l b c), .bool (whs l b c)]) ∧ w' = w := by
  have hl := hr.1
  have hwr := wat_range b c
  obtain ⟨t, ht⟩ : ∃ t, wat b c = t := ⟨_, rfl⟩
  have m0 : c % 4294967296 = c := by omega
  have m1 : (b + c) % 4294967296 = t := ht
  have m3 : (n : Int) % 18446744073709551616 = (n : Int) := by omega
  rw [ht] at hwr
  have m2 : t % 18446744073709551616 = t := by omega
  unfold wof whs
  rw [ht, hl]
  clear ht
  by_cases h : t < (n : Int)
  · rw [decide_eq_true h, if_pos rfl]
    have i1 : decide ((n : Int) ≤ t) = false := decide_eq_false (by omega)
    rcases hr.2.1 with h0 | ⟨bk, off, rfl, _, hcl⟩
    · omega
    · obtain ⟨j, rfl⟩ : ∃ j : Nat, t = (j : Int) := ⟨t.toNat, by omega⟩
      have hj := hcl j (by omega)
      have j0 : (0 : Int) ≤ (j : Int) := by omega
      have hjn : j < n := by omega
      rw [Int.toNat_natCast]
      obtain ⟨x, hx⟩ : ∃ x, l.getD j 0 = x := ⟨_, rfl⟩
      rw [hx] at hj ⊢
      clear hx hcl hr
      go_enter Tryd.func27, Tryd.ntmps27
      go_wp2_with fail
      go_ret2
      exact ⟨rfl, rfl⟩
  · rw [decide_eq_false h]
    have i1 : decide ((n : Int) ≤ t) = true := decide_eq_true (by omega)
    rw [if_neg (by simp)]
    clear hr
    go_enter Tryd.func27, Tryd.ntmps27
    go_wp2_with fail
    go_ret2
    exact ⟨rfl, rfl⟩
end Go.Proofs.YtgojpflkhnaedaaDoor
set_option linter.unusedVariables false
namespace Go.Proofs.YtgojpflkhnaedaaDoor
open Go.RowKit

set_option maxRecDepth 100000 in
set_option maxHeartbeats 2000000 in
theorem put_no (pc : Int) (g : Nat → Int) (A : Option Addr) (n c : Nat) (rd : Int) (out : ByteArray) (st en : Int) (x : Int) (w : World) (hr : 65536 ≤ out.size) :
    Calls Tryd.prog 31 #[.agg (stc pc g (.slice A n c) rd out st en), .int .u32 x] w fun e w' => e = .returned (.agg (stc pc g (.slice A n c) rd out st 4)) ∧ Below w.heap.size w w' := by
  have hk := ((Kx.nil none w).more (.cells (stc pc g (.slice A n c) rd out st en) 30 (0, 0))).add (w.heap.size + 1) (by simp) (.cells #[.int .i64 0, .int .u32 0, .int .u32 0, .int .u32 0, .int .u32 0, .int .u32 0, .int .u32 0, .int .u32 0, .int .u32 0, .int .u32 0, .int .u32 0, .int .u32 0, .int .u32 0, .int .u32 0, .int .u32 0, .int .u32 0, .int .u32 0, .slice none 0 0, .int .i64 0, .string ⟨#[]⟩, .int .i64 0, .int .i64 0] 30 (0, 0))
  obtain ⟨W0, hW0⟩ : ∃ W, (w.alloc (.cells (stc pc g (.slice A n c) rd out st en) 30 (0, 0))).alloc (.cells #[.int .i64 0, .int .u32 0, .int .u32 0, .int .u32 0, .int .u32 0, .int .u32 0, .int .u32 0, .int .u32 0, .int .u32 0, .int .u32 0, .int .u32 0, .int .u32 0, .int .u32 0, .int .u32 0, .int .u32 0, .int .u32 0, .int .u32 0, .slice none 0 0, .int .i64 0, .string ⟨#[]⟩, .int .i64 0, .int .i64 0] 30 (0, 0)) = W := ⟨_, rfl⟩
  rw [hW0] at hk
  have c1 := row_cell (hk.at 0 rfl) 19 (stc_out _ _ _ _ _ _ _)
  have g0 := Lib.hid (hk.at 0 rfl)
  have HK := Lib.hid hk
  have cs := fun w => ended_ref pc g A n c rd out st en 4 w
  have CS := Lib.hid cs
  have i1 : decide ((65536 : Int) ≤ (out.size : Int)) = true := decide_eq_true (by omega)
  clear hk cs
  go_enter Tryd.func31, Tryd.ntmps31
  go_upto_region 1 with fail
  go_wp2_with (first
    | (refine wpList_load_row rfl 30 _ rfl _ rfl 30 _ _ _ g0.out Tryd.underlying30 rfl (infoS2 rfl) ?_)
    | fail)
  refine (CS.out _).mono ?_
  rintro e w2 ⟨rfl, hb⟩
  have kz := HK.out.after hb
  have hz := kz.putRow 1 rfl (.inr (by omega)) (stc pc g (.slice A n c) rd out st 4)
  have g1 := Lib.hid (kz.at 1 rfl)
  have g2 := Lib.hid (hz.at 1 rfl)
  have HB := Lib.hid hz.be.plain
  have S1 : Hid ((stc pc g (.slice A n c) rd out st 4).all (·.oneCell') = true) := Lib.hid (stc_one _ _ _ _ _ _ _ _ _)
  clear kz hz hb
  go_wp2_with (first
    | (refine wpList_store_rowTo rfl 30 _ _ rfl rfl _ _ rfl rfl 30 _ g1.out (infoS2 rfl) rfl S1.out ?_)
    | fail)
  exact bodyPost_ret (results_cell_row rfl _ _ _ 30 (stc pc g (.slice A n c) rd out st 4) _ _ rfl g2.out Tryd.underlying30 rfl (infoS2 rfl)) rfl ⟨rfl, HB.out⟩
set_option maxRecDepth 100000 in
set_option maxHeartbeats 2000000 in
theorem put_yes (pc : Int) (g : Nat → Int) (A : Option Addr) (n c : Nat) (rd : Int) (out : ByteArray) (st en : Int) (x : Int) (w : World) (hr : out.size < 65536) (hx : 0 ≤ x ∧ x < 4294967296) (hp : -4611686018427387904 ≤ pc ∧ pc ≤ 4611686018427387904) :
    Calls Tryd.prog 31 #[.agg (stc pc g (.slice A n c) rd out st en), .int .u32 x] w fun e w' => e = .returned (.agg (stc (pc + 1) g (.slice A n c) rd (out ++ ⟨#[byt x]⟩) st en)) ∧ Below w.heap.size w w' := by
  have hk := ((Kx.nil none w).more (.cells (stc pc g (.slice A n c) rd out st en) 30 (0, 0))).add (w.heap.size + 1) (by simp) (.cells #[.int .i64 0, .int .u32 0, .int .u32 0, .int .u32 0, .int .u32 0, .int .u32 0, .int .u32 0, .int .u32 0, .int .u32 0, .int .u32 0, .int .u32 0, .int .u32 0, .int .u32 0, .int .u32 0, .int .u32 0, .int .u32 0, .int .u32 0, .slice none 0 0, .int .i64 0, .string ⟨#[]⟩, .int .i64 0, .int .i64 0] 30 (0, 0))
  obtain ⟨W0, hW0⟩ : ∃ W, (w.alloc (.cells (stc pc g (.slice A n c) rd out st en) 30 (0, 0))).alloc (.cells #[.int .i64 0, .int .u32 0, .int .u32 0, .int .u32 0, .int .u32 0, .int .u32 0, .int .u32 0, .int .u32 0, .int .u32 0, .int .u32 0, .int .u32 0, .int .u32 0, .int .u32 0, .int .u32 0, .int .u32 0, .int .u32 0, .int .u32 0, .slice none 0 0, .int .i64 0, .string ⟨#[]⟩, .int .i64 0, .int .i64 0] 30 (0, 0)) = W := ⟨_, rfl⟩
  rw [hW0] at hk
  have k0 := hk.more (.cells #[.int .u8 (x % 256)] 5 (0, 0))
  have k1 := k0.putc 0 rfl (.inr (Nat.le_refl _)) 19 (.string (out ++ ⟨#[byt x]⟩)) (set_out _ _ _ _ _ _ _ (out ++ ⟨#[byt x]⟩))
  have k2 := k1.putc 0 rfl (.inr (Nat.le_refl _)) 0 (.int .i64 (pc + 1)) (set_pc _ _ _ _ _ _ _ (pc + 1))
  have c1 := row_cell (hk.at 0 rfl) 19 (stc_out _ _ _ _ _ _ _)
  have c2 := row_cell (k0.at 0 rfl) 19 (stc_out _ _ _ _ _ _ _)
  have f2 := row_froz (k0.at 0 rfl) 19
  have c3 := row_cell (k1.at 0 rfl) 0 (stc_pc _ _ _ _ _ _ _)
  have f3 := row_froz (k1.at 0 rfl) 0
  have w1 : IntKind.i64.wrap (pc + 1) = pc + 1 := by rw [IntKind.wrap_i64]; omega
  have i1 : decide ((65536 : Int) ≤ (out.size : Int)) = false := decide_eq_false (by omega)
  have i2 : ¬ 9223372036854775807 < out.size + 1 := by omega
  have hcv := one_byt W0 x hx.1
  have hsz : (⟨#[byt x]⟩ : ByteArray).size = 1 := rfl
  have hz := k2.putRow 1 rfl (.inr (by omega)) (stc (pc + 1) g (.slice A n c) rd (out ++ ⟨#[byt x]⟩) st en)
  have g0 := Lib.hid (k2.at 0 rfl)
  have g1 := Lib.hid (k2.at 1 rfl)
  have g2 := Lib.hid (hz.at 1 rfl)
  have HB := Lib.hid hz.be.plain
  have S1 : Hid ((stc (pc + 1) g (.slice A n c) rd (out ++ ⟨#[byt x]⟩) st en).all (·.oneCell') = true) := Lib.hid (stc_one _ _ _ _ _ _ _ _ _)
  obtain ⟨D, hD⟩ : ∃ D : ByteArray, ⟨#[byt x]⟩ = D := ⟨_, rfl⟩
  rw [hD] at hcv hsz c3 f3 g0 g1 g2 HB S1 ⊢
  clear hk k0 k1 k2 hz
  go_enter Tryd.func31, Tryd.ntmps31
  go_upto_region 1 with fail
  go_upto_region 5 with fail
  go_wp2_with (first
    | (refine wpList_load_row rfl 30 _ rfl _ rfl 30 _ _ _ g0.out Tryd.underlying30 rfl (infoS2 rfl) ?_)
    | (refine wpList_store_rowTo rfl 30 _ _ rfl rfl _ _ rfl rfl 30 _ g1.out (infoS2 rfl) rfl S1.out ?_)
    | fail)
  exact bodyPost_ret (results_cell_row rfl _ _ _ 30 _ _ _ rfl g2.out Tryd.underlying30 rfl (infoS2 rfl)) rfl ⟨rfl, HB.out⟩
set_option maxRecDepth 100000 in
set_option maxHeartbeats 2000000 in
theorem store_no (pc : Int) (g : Nat → Int) (A : Option Addr) (n c : Nat) (rd : Int) (out : ByteArray) (st en : Int) {l : List Int} (b cc x : Int) (w : World) (hr : Rd w A n l) (hn : n ≤ 1073741824) (hb : 0 ≤ b ∧ b < 4294967296) (hc : 0 ≤ cc ∧ cc ≤ 65535) (h : whs l b cc = false) :
    Calls Tryd.prog 28 #[.agg (stc pc g (.slice A n c) rd out st en), .int .u32 b, .int .i64 cc, .int .u32 x] w fun e w' => e = .returned (.agg (stc pc g (.slice A n c) rd out st 8)) ∧ Below w.heap.size w w' := by
  have hl := hr.1
  have hwr := wat_range b cc
  obtain ⟨t, ht⟩ : ∃ t, wat b cc = t := ⟨_, rfl⟩
  have m0 : cc % 4294967296 = cc := by omega
  have m1 : (b + cc) % 4294967296 = t := ht
  have m3 : (n : Int) % 18446744073709551616 = (n : Int) := by omega
  rw [ht] at hwr
  have m2 : t % 18446744073709551616 = t := by omega
  unfold whs at h
  rw [ht, hl] at h
  have hk := ((Kx.nil none w).more (.cells (stc pc g (.slice A n c) rd out st en) 30 (0, 0))).add (w.heap.size + 1) (by simp) (.cells #[.int .i64 0, .int .u32 0, .int .u32 0, .int .u32 0, .int .u32 0, .int .u32 0, .int .u32 0, .int .u32 0, .int .u32 0, .int .u32 0, .int .u32 0, .int .u32 0, .int .u32 0, .int .u32 0, .int .u32 0, .int .u32 0, .int .u32 0, .slice none 0 0, .int .i64 0, .string ⟨#[]⟩, .int .i64 0, .int .i64 0] 30 (0, 0))
  obtain ⟨W0, hW0⟩ : ∃ W, (w.alloc (.cells (stc pc g (.slice A n c) rd out st en) 30 (0, 0))).alloc (.cells #[.int .i64 0, .int .u32 0, .int .u32 0, .int .u32 0, .int .u32 0, .int .u32 0, .int .u32 0, .int .u32 0, .int .u32 0, .int .u32 0, .int .u32 0, .int .u32 0, .int .u32 0, .int .u32 0, .int .u32 0, .int .u32 0, .int .u32 0, .slice none 0 0, .int .i64 0, .string ⟨#[]⟩, .int .i64 0, .int .i64 0] 30 (0, 0)) = W := ⟨_, rfl⟩
  rw [hW0] at hk
  have c1 := row_cell (hk.at 0 rfl) 17 (stc_mem _ _ _ _ _ _ _)
  have g0 := Lib.hid (hk.at 0 rfl)
  have HK := Lib.hid hk
  have cs := fun w => ended_ref pc g A n c rd out st en 8 w
  have CS := Lib.hid cs
  have i1 : decide ((n : Int) ≤ t) = true := decide_eq_true (by have := of_decide_eq_false h; omega)
  clear hk cs h ht hr
  go_enter Tryd.func28, Tryd.ntmps28
  go_upto_region 1 with fail
  go_wp2_with (first
    | (refine wpList_load_row rfl 30 _ rfl _ rfl 30 _ _ _ g0.out Tryd.underlying30 rfl (infoS2 rfl) ?_)
    | fail)
  refine (CS.out _).mono ?_
  rintro e w2 ⟨rfl, hb⟩
  have kz := HK.out.after hb
  have hz := kz.putRow 1 rfl (.inr (by omega)) (stc pc g (.slice A n c) rd out st 8)
  have g1 := Lib.hid (kz.at 1 rfl)
  have g2 := Lib.hid (hz.at 1 rfl)
  have HB := Lib.hid hz.be.plain
  have S1 : Hid ((stc pc g (.slice A n c) rd out st 8).all (·.oneCell') = true) := Lib.hid (stc_one _ _ _ _ _ _ _ _ _)
  clear kz hz hb
  go_wp2_with (first
    | (refine wpList_store_rowTo rfl 30 _ _ rfl rfl _ _ rfl rfl 30 _ g1.out (infoS2 rfl) rfl S1.out ?_)
    | fail)
  exact bodyPost_ret (results_cell_row rfl _ _ _ 30 (stc pc g (.slice A n c) rd out st 8) _ _ rfl g2.out Tryd.underlying30 rfl (infoS2 rfl)) rfl ⟨rfl, HB.out⟩
set_option maxRecDepth 100000 in
set_option maxHeartbeats 2000000 in
theorem store_yes (pc : Int) (g : Nat → Int) (A : Option Addr) (n c : Nat) (rd : Int) (out : ByteArray) (st en : Int) {l : List Int} (b cc x : Int) (w : World) (hr : Rd w A n l) (hn : n ≤ 1073741824) (hb : 0 ≤ b ∧ b < 4294967296) (hc : 0 ≤ cc ∧ cc ≤ 65535) (hw : W32s l) (hx : 0 ≤ x ∧ x < 4294967296) (hp : -4611686018427387904 ≤ pc ∧ pc ≤ 4611686018427387904) (h : whs l b cc = true) :
    Calls Tryd.prog 28 #[.agg (stc pc g (.slice A n c) rd out st en), .int .u32 b, .int .i64 cc, .int .u32 x] w fun e w' => ∃ q cap, w.heap.size ≤ q ∧ e = .returned (.agg (stc (pc + 1) g (.slice (some ⟨q, 0, none⟩) n cap) rd out st en)) ∧ Rd w' (some ⟨q, 0, none⟩) n (l.set (wat b cc).toNat x) ∧ n ≤ cap ∧ cap ≤ maxLen ∧ Below w.heap.size w w' := by
  have hl := hr.1
  have hwr := wat_range b cc
  obtain ⟨t, ht⟩ : ∃ t, wat b cc = t := ⟨_, rfl⟩
  have m0 : cc % 4294967296 = cc := by omega
  have m1 : (b + cc) % 4294967296 = t := ht
  have m3 : (n : Int) % 18446744073709551616 = (n : Int) := by omega
  rw [ht] at hwr
  have m2 : t % 18446744073709551616 = t := by omega
  unfold whs at h
  rw [ht, hl] at h
  have htn : t < (n : Int) := of_decide_eq_true h
  rw [ht]
  obtain ⟨j, rfl⟩ : ∃ j : Nat, t = (j : Int) := ⟨t.toNat, by omega⟩
  rw [Int.toNat_natCast]
  have hj : j < n := by omega
  have j0 : (0 : Int) ≤ (j : Int) := by omega
  have n0 : 0 < n := by omega
  obtain ⟨bk, off, rfl, _⟩ := rd_news n0 hr
  have hk := ((Kx.nil none w).more (.cells (stc pc g (.slice (some ⟨bk, off, none⟩) n c) rd out st en) 30 (0, 0))).add (w.heap.size + 1) (by simp) (.cells #[.int .i64 0, .int .u32 0, .int .u32 0, .int .u32 0, .int .u32 0, .int .u32 0, .int .u32 0, .int .u32 0, .int .u32 0, .int .u32 0, .int .u32 0, .int .u32 0, .int .u32 0, .int .u32 0, .int .u32 0, .int .u32 0, .int .u32 0, .slice none 0 0, .int .i64 0, .string ⟨#[]⟩, .int .i64 0, .int .i64 0] 30 (0, 0))
  obtain ⟨W0, hW0⟩ : ∃ W, (w.alloc (.cells (stc pc g (.slice (some ⟨bk, off, none⟩) n c) rd out st en) 30 (0, 0))).alloc (.cells #[.int .i64 0, .int .u32 0, .int .u32 0, .int .u32 0, .int .u32 0, .int .u32 0, .int .u32 0, .int .u32 0, .int .u32 0, .int .u32 0, .int .u32 0, .int .u32 0, .int .u32 0, .int .u32 0, .int .u32 0, .int .u32 0, .int .u32 0, .slice none 0 0, .int .i64 0, .string ⟨#[]⟩, .int .i64 0, .int .i64 0] 30 (0, 0)) = W := ⟨_, rfl⟩
  rw [hW0] at hk
  have c1 := row_cell (hk.at 0 rfl) 17 (stc_mem _ _ _ _ _ _ _)
  have c2 := row_cell ((hk.more (.cells #[] 27 (0, 0))).at 0 rfl) 17 (stc_mem _ _ _ _ _ _ _)
  have HK := Lib.hid hk
  have hw0 : Below w.heap.size w W0 := hk.be.plain
  have HR := Lib.hid (hr.below hw0)
  have i1 : decide ((n : Int) ≤ (j : Int)) = false := decide_eq_false (by omega)
  have w1 : IntKind.i64.wrap (pc + 1) = pc + 1 := by rw [IntKind.wrap_i64]; omega
  obtain ⟨z0, hz, hz0, hz1, hz2⟩ := info_parts infoU32
  clear hk h ht hr hw0
  go_enter Tryd.func28, Tryd.ntmps28
  go_upto_region 1 with fail
  go_wp2_with (at_builtin; (refine wpList_append_lies _ rfl _ _ _ rfl W0.heap.size 27 z0 _ 1 4 Tryd.underlying22 hz hz0 hz1 hz2 rfl (by omega) _ 0 [] rfl (World.ownsRow_made W0 #[] 0 (Nat.le_refl _) (by simp) rfl) ⟨bk, off, none⟩ n c (l.map (Value.int .u32)) rfl (by simp [hl]) (rd_new n0 (HR.out.below ((Below.refl _ _).alloc (Nat.le_refl _) _))) (u32_cell _) n0 ?c3 ?c4 ?c5 _ rfl ?_))
  case c3 => unfold maxLen; omega
  case c4 => omega
  case c5 => simp
  intro q1 cap1 w5 hown hgrow hat hlt
  have k1 := v1g HK.out (.cells #[] 27 (0, 0)) hgrow
  have hg1 := (hown.lt q1 rfl).1
  obtain ⟨cur, k2, h1, h2, h3, h4⟩ := kx_row9 k1 hown (fun y hy => by
    have := (HK.out.all y hy).2
    omega)
  have hge : w.heap.size ≤ q1 := Nat.le_trans HK.out.be.size hg1
  have k3 := k2.putc 0 rfl (.inr (Nat.le_refl _)) 17 (.slice (some ⟨q1, 0, none⟩) n cap1) (set_mem _ _ _ _ _ _ _ (.slice (some ⟨q1, 0, none⟩) n cap1))
  have k4 := k3.putc 2 rfl (.inr hge) j (.int .u32 x) rfl
  have k5 := k4.putc 0 rfl (.inr (Nat.le_refl _)) 0 (.int .i64 (pc + 1)) (set_pc _ _ _ _ _ _ _ (pc + 1))
  have d1 := row_cell (k2.at 0 rfl) 17 (stc_mem _ _ _ _ _ _ _)
  have e1 := row_froz (k2.at 0 rfl) 17
  have d2 := row_cell (k3.at 0 rfl) 17 (stc_mem _ _ _ _ _ _ _)
  have hcj : cur[j]? = some (.int .u32 (l.getD j 0)) := by
    have h2 : cur.toList[j]? = (l.map (Value.int .u32))[j]? := by rw [← h4, List.getElem?_take, if_pos hj]
    rw [← Array.getElem?_toList, h2, List.getElem?_map, List.getD_eq_getElem?_getD, List.getElem?_eq_getElem (show j < l.length by omega)]
    rfl
  have d3 := row_cell (k3.at 2 rfl) j hcj
  have e3 := row_froz (k3.at 2 rfl) j
  have d4 := row_cell (k4.at 0 rfl) 0 (stc_pc _ _ _ _ _ _ _)
  have e4 := row_froz (k4.at 0 rfl) 0
  have hzz := k5.putRow 1 rfl (.inr (by omega)) (stc (pc + 1) g (.slice (some ⟨q1, 0, none⟩) n cap1) rd out st en)
  have g0 := Lib.hid (k5.at 0 rfl)
  have g1 := Lib.hid (k5.at 1 rfl)
  have g2 := Lib.hid (hzz.at 1 rfl)
  have HB := Lib.hid hzz.be.plain
  have S1 : Hid ((stc (pc + 1) g (.slice (some ⟨q1, 0, none⟩) n cap1) rd out st en).all (·.oneCell') = true) := Lib.hid (stc_one _ _ _ _ _ _ _ _ _)
  have hrd := Lib.hid (rd_blk (hzz.at 2 rfl) (set_take x h4) (by rw [List.length_set]; exact hl) (w32_set hw hx))
  clear k1 k2 k3 k4 k5 hzz hown hgrow hat h4 hcj
  go_upto_region 7 with fail
  go_wp2_with (first
    | (refine wpList_load_row rfl 30 _ rfl _ rfl 30 _ _ _ g0.out Tryd.underlying30 rfl (infoS2 rfl) ?_)
    | (refine wpList_store_rowTo rfl 30 _ _ rfl rfl _ _ rfl rfl 30 _ g1.out (infoS2 rfl) rfl S1.out ?_)
    | fail)
  exact bodyPost_ret (results_cell_row rfl _ _ _ 30 _ _ _ rfl g2.out Tryd.underlying30 rfl (infoS2 rfl)) rfl ⟨q1, cap1, hge, rfl, hrd.out, h1, h3, HB.out⟩
end Go.Proofs.YtgojpflkhnaedaaDoor
set_option linter.unusedVariables false
namespace Go.Proofs.YtgojpflkhnaedaaDoor
open Go.RowKit

set_option maxRecDepth 100000 in
set_option maxHeartbeats 2000000 in
theorem step_end (pc : Int) (g : Nat → Int) (A : Option Addr) (n c : Nat) (rd : Int) (out : ByteArray) (st en : Int) {B : Option Addr} {m k : Nat} {code : List Int} {d : Int} (inp : ByteArray) (w : World) (he : ¬ en = 0) :
    Calls Tryd.prog 16 #[.agg #[.slice B m k, .int .i64 d], .string inp, .agg (stc pc g (.slice A n c) rd out st en)] w fun e w' => e = .returned (.agg (stc pc g (.slice A n c) rd out st en)) ∧ Below w.heap.size w w' := by
  have hk := (((Kx.nil none w).more (.cells #[.slice B m k, .int .i64 d] 24 (0, 0))).add (w.heap.size + 1) (by simp) (.cells (stc pc g (.slice A n c) rd out st en) 30 (0, 0))).add (w.heap.size + 1 + 1) (by simp) (.cells #[.int .i64 0, .int .u32 0, .int .u32 0, .int .u32 0, .int .u32 0, .int .u32 0, .int .u32 0, .int .u32 0, .int .u32 0, .int .u32 0, .int .u32 0, .int .u32 0, .int .u32 0, .int .u32 0, .int .u32 0, .int .u32 0, .int .u32 0, .slice none 0 0, .int .i64 0, .string ⟨#[]⟩, .int .i64 0, .int .i64 0] 30 (0, 0))
  obtain ⟨W0, hW0⟩ : ∃ W, ((w.alloc (.cells #[.slice B m k, .int .i64 d] 24 (0, 0))).alloc (.cells (stc pc g (.slice A n c) rd out st en) 30 (0, 0))).alloc (.cells #[.int .i64 0, .int .u32 0, .int .u32 0, .int .u32 0, .int .u32 0, .int .u32 0, .int .u32 0, .int .u32 0, .int .u32 0, .int .u32 0, .int .u32 0, .int .u32 0, .int .u32 0, .int .u32 0, .int .u32 0, .int .u32 0, .int .u32 0, .slice none 0 0, .int .i64 0, .string ⟨#[]⟩, .int .i64 0, .int .i64 0] 30 (0, 0)) = W := ⟨_, rfl⟩
  rw [hW0] at hk
  have ce := row_cell (hk.at 1 rfl) 21 (stc_en _ _ _ _ _ _ _)
  have cp := row_cell (hk.at 1 rfl) 0 (stc_pc _ _ _ _ _ _ _)
  have cm : W0.cell? ⟨w.heap.size, 0, none⟩ = some (.slice B m k) := row_cell (hk.at 0 rfl) 0 rfl
  have hz := hk.putRow 2 rfl (.inr (by omega)) (stc pc g (.slice A n c) rd out st en)
  have g0 := Lib.hid (hk.at 1 rfl)
  have g1 := Lib.hid (hk.at 2 rfl)
  have g2 := Lib.hid (hz.at 2 rfl)
  have HB := Lib.hid hz.be.plain
  have S1 : Hid ((stc pc g (.slice A n c) rd out st en).all (·.oneCell') = true) := Lib.hid (stc_one _ _ _ _ _ _ _ _ _)
  have e1 : (en == 0) = false := beq_eq_false_iff_ne.2 he
  clear hk hz
  go_enter Tryd.func16, Tryd.ntmps16
  go_upto_region 1 with fail
  go_upto_region 2 with fail
  go_wp2_with (first
    | (refine wpList_load_row rfl 30 _ rfl _ rfl 30 _ _ _ g0.out Tryd.underlying30 rfl (infoS2 rfl) ?_)
    | (refine wpList_store_rowTo rfl 30 _ _ rfl rfl _ _ rfl rfl 30 _ g1.out (infoS2 rfl) rfl S1.out ?_)
    | fail)
  exact bodyPost_ret (results_cell_row rfl _ _ _ 30 (stc pc g (.slice A n c) rd out st en) _ _ rfl g2.out Tryd.underlying30 rfl (infoS2 rfl)) rfl ⟨rfl, HB.out⟩
set_option maxRecDepth 100000 in
set_option maxHeartbeats 2000000 in
theorem step_low (pc : Int) (g : Nat → Int) (A : Option Addr) (n c : Nat) (rd : Int) (out : ByteArray) (st en : Int) {B : Option Addr} {m k : Nat} {code : List Int} {d : Int} (inp : ByteArray) (w : World) (he : en = 0) (hp : pc < 0) :
    Calls Tryd.prog 16 #[.agg #[.slice B m k, .int .i64 d], .string inp, .agg (stc pc g (.slice A n c) rd out st en)] w fun e w' => e = .returned (.agg (stc pc g (.slice A n c) rd out st 7)) ∧ Below w.heap.size w w' := by
  subst he
  have hk := (((Kx.nil none w).more (.cells #[.slice B m k, .int .i64 d] 24 (0, 0))).add (w.heap.size + 1) (by simp) (.cells (stc pc g (.slice A n c) rd out st 0) 30 (0, 0))).add (w.heap.size + 1 + 1) (by simp) (.cells #[.int .i64 0, .int .u32 0, .int .u32 0, .int .u32 0, .int .u32 0, .int .u32 0, .int .u32 0, .int .u32 0, .int .u32 0, .int .u32 0, .int .u32 0, .int .u32 0, .int .u32 0, .int .u32 0, .int .u32 0, .int .u32 0, .int .u32 0, .slice none 0 0, .int .i64 0, .string ⟨#[]⟩, .int .i64 0, .int .i64 0] 30 (0, 0))
  obtain ⟨W0, hW0⟩ : ∃ W, ((w.alloc (.cells #[.slice B m k, .int .i64 d] 24 (0, 0))).alloc (.cells (stc pc g (.slice A n c) rd out st 0) 30 (0, 0))).alloc (.cells #[.int .i64 0, .int .u32 0, .int .u32 0, .int .u32 0, .int .u32 0, .int .u32 0, .int .u32 0, .int .u32 0, .int .u32 0, .int .u32 0, .int .u32 0, .int .u32 0, .int .u32 0, .int .u32 0, .int .u32 0, .int .u32 0, .int .u32 0, .slice none 0 0, .int .i64 0, .string ⟨#[]⟩, .int .i64 0, .int .i64 0] 30 (0, 0)) = W := ⟨_, rfl⟩
  rw [hW0] at hk
  have ce := row_cell (hk.at 1 rfl) 21 (stc_en _ _ _ _ _ _ _)
  have cp := row_cell (hk.at 1 rfl) 0 (stc_pc _ _ _ _ _ _ _)
  have cm : W0.cell? ⟨w.heap.size, 0, none⟩ = some (.slice B m k) := row_cell (hk.at 0 rfl) 0 rfl
  have g0 := Lib.hid (hk.at 1 rfl)
  have HK := Lib.hid hk
  have cs := fun w => ended_ref pc g A n c rd out st 0 7 w
  have CS := Lib.hid cs
  have i1 : decide (pc < 0) = true := decide_eq_true hp
  clear hk cs
  go_enter Tryd.func16, Tryd.ntmps16
  go_upto_region 1 with fail
  go_upto_region 4 with fail
  go_wp2_with (first
    | (refine wpList_load_row rfl 30 _ rfl _ rfl 30 _ _ _ g0.out Tryd.underlying30 rfl (infoS2 rfl) ?_)
    | fail)
  refine (CS.out _).mono ?_
  rintro e w2 ⟨rfl, hb⟩
  have kz := HK.out.after hb
  have hz := kz.putRow 2 rfl (.inr (by omega)) (stc pc g (.slice A n c) rd out st 7)
  have g1 := Lib.hid (kz.at 2 rfl)
  have g2 := Lib.hid (hz.at 2 rfl)
  have HB := Lib.hid hz.be.plain
  have S1 : Hid ((stc pc g (.slice A n c) rd out st 7).all (·.oneCell') = true) := Lib.hid (stc_one _ _ _ _ _ _ _ _ _)
  clear kz hz hb
  go_wp2_with (first
    | (refine wpList_store_rowTo rfl 30 _ _ rfl rfl _ _ rfl rfl 30 _ g1.out (infoS2 rfl) rfl S1.out ?_)
    | fail)
  exact bodyPost_ret (results_cell_row rfl _ _ _ 30 (stc pc g (.slice A n c) rd out st 7) _ _ rfl g2.out Tryd.underlying30 rfl (infoS2 rfl)) rfl ⟨rfl, HB.out⟩
set_option maxRecDepth 100000 in
set_option maxHeartbeats 2000000 in
theorem step_high (pc : Int) (g : Nat → Int) (A : Option Addr) (n c : Nat) (rd : Int) (out : ByteArray) (st en : Int) {B : Option Addr} {m k : Nat} {code : List Int} {d : Int} (inp : ByteArray) (w : World) (he : en = 0) (hp : 0 ≤ pc) (hq : (m : Int) ≤ pc) :
    Calls Tryd.prog 16 #[.agg #[.slice B m k, .int .i64 d], .string inp, .agg (stc pc g (.slice A n c) rd out st en)] w fun e w' => e = .returned (.agg (stc pc g (.slice A n c) rd out st 7)) ∧ Below w.heap.size w w' := by
  subst he
  have hk := (((Kx.nil none w).more (.cells #[.slice B m k, .int .i64 d] 24 (0, 0))).add (w.heap.size + 1) (by simp) (.cells (stc pc g (.slice A n c) rd out st 0) 30 (0, 0))).add (w.heap.size + 1 + 1) (by simp) (.cells #[.int .i64 0, .int .u32 0, .int .u32 0, .int .u32 0, .int .u32 0, .int .u32 0, .int .u32 0, .int .u32 0, .int .u32 0, .int .u32 0, .int .u32 0, .int .u32 0, .int .u32 0, .int .u32 0, .int .u32 0, .int .u32 0, .int .u32 0, .slice none 0 0, .int .i64 0, .string ⟨#[]⟩, .int .i64 0, .int .i64 0] 30 (0, 0))
  obtain ⟨W0, hW0⟩ : ∃ W, ((w.alloc (.cells #[.slice B m k, .int .i64 d] 24 (0, 0))).alloc (.cells (stc pc g (.slice A n c) rd out st 0) 30 (0, 0))).alloc (.cells #[.int .i64 0, .int .u32 0, .int .u32 0, .int .u32 0, .int .u32 0, .int .u32 0, .int .u32 0, .int .u32 0, .int .u32 0, .int .u32 0, .int .u32 0, .int .u32 0, .int .u32 0, .int .u32 0, .int .u32 0, .int .u32 0, .int .u32 0, .slice none 0 0, .int .i64 0, .string ⟨#[]⟩, .int .i64 0, .int .i64 0] 30 (0, 0)) = W := ⟨_, rfl⟩
  rw [hW0] at hk
  have ce := row_cell (hk.at 1 rfl) 21 (stc_en _ _ _ _ _ _ _)
  have cp := row_cell (hk.at 1 rfl) 0 (stc_pc _ _ _ _ _ _ _)
  have cm : W0.cell? ⟨w.heap.size, 0, none⟩ = some (.slice B m k) := row_cell (hk.at 0 rfl) 0 rfl
  have g0 := Lib.hid (hk.at 1 rfl)
  have HK := Lib.hid hk
  have cs := fun w => ended_ref pc g A n c rd out st 0 7 w
  have CS := Lib.hid cs
  have i1 : decide (pc < 0) = false := decide_eq_false (by omega)
  have i2 : decide ((m : Int) ≤ pc) = true := decide_eq_true hq
  clear hk cs
  go_enter Tryd.func16, Tryd.ntmps16
  go_upto_region 1 with fail
  go_upto_region 4 with fail
  go_wp2_with (first
    | (refine wpList_load_row rfl 30 _ rfl _ rfl 30 _ _ _ g0.out Tryd.underlying30 rfl (infoS2 rfl) ?_)
    | fail)
  refine (CS.out _).mono ?_
  rintro e w2 ⟨rfl, hb⟩
  have kz := HK.out.after hb
  have hz := kz.putRow 2 rfl (.inr (by omega)) (stc pc g (.slice A n c) rd out st 7)
  have g1 := Lib.hid (kz.at 2 rfl)
  have g2 := Lib.hid (hz.at 2 rfl)
  have HB := Lib.hid hz.be.plain
  have S1 : Hid ((stc pc g (.slice A n c) rd out st 7).all (·.oneCell') = true) := Lib.hid (stc_one _ _ _ _ _ _ _ _ _)
  clear kz hz hb
  go_wp2_with (first
    | (refine wpList_store_rowTo rfl 30 _ _ rfl rfl _ _ rfl rfl 30 _ g1.out (infoS2 rfl) rfl S1.out ?_)
    | fail)
  exact bodyPost_ret (results_cell_row rfl _ _ _ 30 (stc pc g (.slice A n c) rd out st 7) _ _ rfl g2.out Tryd.underlying30 rfl (infoS2 rfl)) rfl ⟨rfl, HB.out⟩
theorem rd_at9 {w : World} {A : Option Addr} {n : Nat} {l : List Int} (h : Rd w A n l) {j : Nat} (hj : j < n) : ∃ b off, A = some ⟨b, off, none⟩ ∧ w.cell? ⟨b, off + j, none⟩ = some (.int .u32 (l.getD j 0)) := by
  rcases h.2.1 with h0 | ⟨b, off, e, _, hc⟩
  · omega
  · exact ⟨b, off, e, hc j hj⟩
set_option maxRecDepth 100000 in
set_option maxHeartbeats 4000000 in
theorem step_bad (p : Nat) (g : Nat → Int) (A : Option Addr) (n c : Nat) (rd : Int) (out : ByteArray) (st : Int) {B : Option Addr} {m k : Nat} {code : List Int} {d : Int} (inp : ByteArray) (v : Int)  (w : World) (hc : Rd w B m code) (hm : m ≤ 1073741824) (hp : p < m) (hv : code.getD p 0 = v) (hst : -9223372036854775808 ≤ st ∧ st < 4611686018427387904) (hd : dcd v = #[.int .i64 0, .int .i64 0, .int .i64 0, .int .i64 0]) (hde : dce v = 7) :
    Calls Tryd.prog 16 #[.agg #[.slice B m k, .int .i64 d], .string inp, .agg (stc (p : Int) g (.slice A n c) rd out st 0)] w fun e w' => e = .returned (.agg (stc (p : Int) g (.slice A n c) rd out (st + 1) 6)) ∧ Below w.heap.size w w' := by
  have hv0 : 0 ≤ v ∧ v < 4294967296 := by rw [← hv]; exact hc.2.2 p
  obtain ⟨bk, off, rfl, hcell⟩ := rd_at9 hc hp
  rw [hv] at hcell
  have hk := (((Kx.nil none w).more (.cells #[.slice (some ⟨bk, off, none⟩) m k, .int .i64 d] 24 (0, 0))).add (w.heap.size + 1) (by simp) (.cells (stc (p : Int) g (.slice A n c) rd out st 0) 30 (0, 0))).add (w.heap.size + 1 + 1) (by simp) (.cells #[.int .i64 0, .int .u32 0, .int .u32 0, .int .u32 0, .int .u32 0, .int .u32 0, .int .u32 0, .int .u32 0, .int .u32 0, .int .u32 0, .int .u32 0, .int .u32 0, .int .u32 0, .int .u32 0, .int .u32 0, .int .u32 0, .int .u32 0, .slice none 0 0, .int .i64 0, .string ⟨#[]⟩, .int .i64 0, .int .i64 0] 30 (0, 0))
  obtain ⟨W0, hW0⟩ : ∃ W, ((w.alloc (.cells #[.slice (some ⟨bk, off, none⟩) m k, .int .i64 d] 24 (0, 0))).alloc (.cells (stc (p : Int) g (.slice A n c) rd out st 0) 30 (0, 0))).alloc (.cells #[.int .i64 0, .int .u32 0, .int .u32 0, .int .u32 0, .int .u32 0, .int .u32 0, .int .u32 0, .int .u32 0, .int .u32 0, .int .u32 0, .int .u32 0, .int .u32 0, .int .u32 0, .int .u32 0, .int .u32 0, .int .u32 0, .int .u32 0, .slice none 0 0, .int .i64 0, .string ⟨#[]⟩, .int .i64 0, .int .i64 0] 30 (0, 0)) = W := ⟨_, rfl⟩
  rw [hW0] at hk
  have ce := row_cell (hk.at 1 rfl) 21 (stc_en _ _ _ _ _ _ _)
  have cp := row_cell (hk.at 1 rfl) 0 (stc_pc _ _ _ _ _ _ _)
  have cm : W0.cell? ⟨w.heap.size, 0, none⟩ = some (.slice (some ⟨bk, off, none⟩) m k) := row_cell (hk.at 0 rfl) 0 rfl
  have cst := row_cell (hk.at 1 rfl) 20 (stc_st _ _ _ _ _ _ _)
  have fst := row_froz (hk.at 1 rfl) 20
  have k1 := hk.putc 1 rfl (.inr (by omega)) 20 (.int .i64 (st + 1)) (set_st _ _ _ _ _ _ _ (st + 1))
  have cp1 := row_cell (k1.at 1 rfl) 0 (stc_pc _ _ _ _ _ _ _)
  have cm1 : (W0.setCell ⟨w.heap.size + 1, 20, none⟩ (.int .i64 (st + 1))).cell? ⟨w.heap.size, 0, none⟩ = some (.slice (some ⟨bk, off, none⟩) m k) := row_cell (k1.at 0 rfl) 0 rfl
  have hb0 : bk < w.heap.size := by
    rcases hc.2.1 with h0 | ⟨b1, o1, e1, hlt, _⟩
    · omega
    · injection e1 with e1
      injection e1 with e1 _ _
      rw [e1]; exact hlt
  have cc1 := (k1.be.plain.cell (p := ⟨bk, off + p, none⟩) hb0).trans hcell
  have p0 : (0 : Int) ≤ (p : Int) := by omega
  have p1 : (p : Int) < (m : Int) := by omega
  have i1 : decide ((p : Int) < 0) = false := decide_eq_false (by omega)
  have i2 : decide ((m : Int) ≤ (p : Int)) = false := decide_eq_false (by omega)
  have w1 : IntKind.i64.wrap (st + 1) = st + 1 := by rw [IntKind.wrap_i64]; omega
  have cd := fun w => decode_ref v w hv0.1 hv0.2
  rw [hd, hde] at cd
  have CD := Lib.hid cd
  have HK1 := Lib.hid k1
  clear cd hk k1 hcell hc hv hv0 hb0
  go_enter Tryd.func16, Tryd.ntmps16
  go_upto_region 6 with fail
  go_wp2_with fail
  refine (CD.out _).mono ?_
  rintro e w2 ⟨rfl, hb⟩
  have k2 := (HK1.out.after hb).add w2.heap.size rfl (.cells #[.int .i64 0, .int .i64 0, .int .i64 0, .int .i64 0] 40 (0, 0))
  have g0 := Lib.hid (k2.at 1 rfl)
  have HK := Lib.hid k2
  have cs := fun w => ended_ref p g A n c rd out (st + 1) 0 6 w
  have CS := Lib.hid cs
  clear k2 cs hb
  go_upto_region 8 with fail
  go_wp2_with (first
    | (refine wpList_load_row rfl 30 _ rfl _ rfl 30 _ _ _ g0.out Tryd.underlying30 rfl (infoS2 rfl) ?_)
    | fail)
  refine (CS.out _).mono ?_
  rintro e w2 ⟨rfl, hb⟩
  have kz := HK.out.after hb
  have hz := kz.putRow 2 rfl (.inr (by omega)) (stc (p : Int) g (.slice A n c) rd out (st + 1) 6)
  have g1 := Lib.hid (kz.at 2 rfl)
  have g2 := Lib.hid (hz.at 2 rfl)
  have HB := Lib.hid hz.be.plain
  have S1 : Hid ((stc (p : Int) g (.slice A n c) rd out (st + 1) 6).all (·.oneCell') = true) := Lib.hid (stc_one _ _ _ _ _ _ _ _ _)
  clear kz hz hb
  go_wp2_with (first
    | (refine wpList_store_rowTo rfl 30 _ _ rfl rfl _ _ rfl rfl 30 _ g1.out (infoS2 rfl) rfl S1.out ?_)
    | fail)
  exact bodyPost_ret (results_cell_row rfl _ _ _ 30 (stc (p : Int) g (.slice A n c) rd out (st + 1) 6) _ _ rfl g2.out Tryd.underlying30 rfl (infoS2 rfl)) rfl ⟨rfl, HB.out⟩
end Go.Proofs.YtgojpflkhnaedaaDoor
