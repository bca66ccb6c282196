/- The reference of layer 9: Same: '==' of two arrays of 16 words, and all the fields. -/
import Derived.Test.YtgojpflkhnaedaaDoorG9d
import Derived.Test.YtgojpflkhnaedaaDoorMchD
import Derived.Deep.MidRow
import Derived.ChangeKeysEq
set_option linter.unusedVariables false
namespace Go.Proofs.YtgojpflkhnaedaaDoor
open Go.RowKit

/-- The sixteen registers, as values. -/
def regs (g : Nat → Int) : List Int := [g 0, g 1, g 2, g 3, g 4, g 5, g 6, g 7, g 8, g 9, g 10, g 11, g 12, g 13, g 14, g 15]
theorem regs_get (g : Nat → Int) (j : Nat) (hj : j < 16) : (regs g)[j]? = some (g j) := by
  have : j = 0 ∨ j = 1 ∨ j = 2 ∨ j = 3 ∨ j = 4 ∨ j = 5 ∨ j = 6 ∨ j = 7 ∨ j = 8 ∨ j = 9 ∨ j = 10 ∨ j = 11 ∨ j = 12 ∨ j = 13 ∨ j = 14 ∨ j = 15 := by omega
  rcases this with rfl | rfl | rfl | rfl | rfl | rfl | rfl | rfl | rfl | rfl | rfl | rfl | rfl | rfl | rfl | rfl <;> rfl
theorem regs_len (g : Nat → Int) : (regs g).length = 16 := rfl
theorem regs_eq {g h : Nat → Int} : regs g = regs h ↔ ∀ i, i < 16 → g i = h i := by
  constructor
  · intro e i hi
    have h1 := regs_get g i hi
    rw [e, regs_get h i hi] at h1
    exact (Option.some.inj h1).symm
  · intro e
    unfold regs
    rw [e 0 (by omega), e 1 (by omega), e 2 (by omega), e 3 (by omega), e 4 (by omega), e 5 (by omega), e 6 (by omega), e 7 (by omega), e 8 (by omega), e 9 (by omega), e 10 (by omega), e 11 (by omega), e 12 (by omega), e 13 (by omega), e 14 (by omega), e 15 (by omega)]
def rgv (g : Nat → Int) : Array Value := ((regs g).map (Value.int .u32)).toArray
theorem plainU9 : Tryd.prog.plainKey 27 = true := by kernel_rfl
theorem cellsU9 : Tryd.prog.cellsOf 27 = 1 := by kernel_rfl
theorem part_word9 (w : World) (xs : List Int) (i : Nat) (h : i < xs.length) : (part 27 (xs.map (Value.int .u32)).toArray i).run Tryd.prog w = .ok (.int .u32 (xs.getD i 0)) w := by
  refine run_part_plain w plainU9 ?_
  simp [List.getD, h]
theorem eqItems_words9 (w : World) (d : Nat) (xs ys : List Int) : ∀ (is : List Nat), (∀ i ∈ is, i < xs.length ∧ i < ys.length) →
    (Op.eqItems (d + 1) 27 (Tryd.prog.cellsOf 27) (xs.map (Value.int .u32)).toArray (ys.map (Value.int .u32)).toArray is).run Tryd.prog w = .ok (is.all fun i => xs.getD i 0 == ys.getD i 0) w
  | [], _ => by simp [Op.eqItems]
  | i :: is, h => by
    obtain ⟨h1, h2⟩ := h i (by simp)
    have ih := eqItems_words9 w d xs ys is (fun j hj => h j (by simp [hj]))
    rw [Op.eqItems, cellsU9, Nat.mul_one]
    simp only [Sem.run_bind, part_word9 w xs i h1, part_word9 w ys i h2, Result.andThen_ok, run_equalIn_int w d 27 .u32 .u32 _ _ Tryd.underlying27]
    rw [cellsU9] at ih
    cases hc : (xs.getD i 0 == ys.getD i 0) with
    | true => simp only [Bool.not_true, Bool.false_eq_true, if_false, List.all_cons, hc, Bool.true_and]; exact ih
    | false => simp only [Bool.not_false, if_true, List.all_cons, hc, Bool.false_and]; rfl
theorem infoU9 : ∃ i, Tryd.prog.info? 27 = some i := by
  obtain ⟨i, hi, _⟩ := info_parts infoU32
  exact ⟨i, hi⟩
theorem info16 : (Tryd.prog.info? 28).map (·.size) = some 16 := by kernel_rfl
set_option maxRecDepth 100000 in
theorem eq16 (w : World) (g h : Nat → Int) : (Op.equalIn 10000 28 (.agg (rgv g)) (.agg (rgv h))).run Tryd.prog w = .ok (decide (regs g = regs h)) w := by
  obtain ⟨i, hi⟩ := infoU9
  have hr := run_equalIn_array (P := Tryd.prog) (w := w) 9999 (rgv g) (rgv h) Tryd.underlying28 hi
  rw [hr]
  have k := eqItems_words9 w 9998 (regs g) (regs h) (List.range 16) (by intro i hi; simpa [regs_len] using hi)
  refine k.trans ?_
  congr 1
  rw [Bool.eq_iff_iff, List.all_eq_true, decide_eq_true_iff]
  constructor
  · intro hh
    refine regs_eq.2 fun i hi => ?_
    have := hh i (by simpa using hi)
    rw [beq_iff_eq, List.getD_eq_getElem?_getD, List.getD_eq_getElem?_getD, regs_get g i hi, regs_get h i hi] at this
    exact this
  · intro hh i _
    rw [hh]
    simp
theorem wpList_load_midg {P : Program} {ops : Array Oper} {rest : List Oper} {op : Oper} {a : Act} {w : World} {Q : Exit → Act → World → Prop} (hgd : Region.wanted op (yielded ops a.tmps) = true) (ty : TypeId) (x : Operand) (ho : op.op = .load ty x)
    (b o : Nat) (hx : a.eval x = .pointer (some ⟨b, o, none⟩)) (C : Array Value) (d : TypeDesc) (hc : w.rangeAt b o C.toList)
    (hu : P.underlying ty = some d) (hd : d.isRow = true) (hi : (P.info? ty).map (·.size) = some C.size)
    (h : wpList P ops Q rest (a.put op.dst (.agg C)) w) : wpList P ops Q (op :: rest) a w :=
  wpList_step fun K hK => by
    rw [if_pos hgd]
    exact wp_load_mid ty x ho b o hx C.toList d hc hu hd (by simpa using hi) (hK _ _ (by simpa using h))
theorem rgv_size (g : Nat → Int) : (rgv g).size = 16 := rfl
theorem info16' (g : Nat → Int) : (Tryd.prog.info? 28).map (·.size) = some (rgv g).size := info16
/-- The registers, a range of a state's cells. -/
theorem range16 {W : World} {b : Nat} {t : TypeId} {pc rd st en : Int} {g : Nat → Int} {M : Value} {out : ByteArray} (h : W.heap[b]? = some (.cells (stc pc g M rd out st en) t (0, 0))) :
    W.rangeAt b 1 (rgv g).toList := fun j v hv => by
  have e : (rgv g).toList = (regs g).map (Value.int .u32) := rfl
  rw [e] at hv
  have hj : j < 16 := by
    have := (List.getElem?_eq_some_iff.1 hv).1
    simpa [regs_len] using this
  rw [List.getElem?_map, regs_get g j hj] at hv
  injection hv with hv
  rw [← hv]
  exact row_cell h (1 + j) (stc_get _ _ _ _ _ _ _ j hj)
theorem str_eq {a b : ByteArray} (h : a = b) : (a.toList == b.toList) = true := by rw [h]; exact beq_self_eq_true _
theorem str_ne {a b : ByteArray} (h : ¬ a = b) : (a.toList == b.toList) = false := by
  rw [beq_eq_false_iff_ne]
  intro e
  apply h
  apply ByteArray.ext
  apply Array.toList_inj.1
  rwa [ByteArray.toList_eq, ByteArray.toList_eq] at e
def Mst.eqv (x y : Mst) : Prop := x.pc = y.pc ∧ regs x.g = regs y.g ∧ x.mem = y.mem ∧ x.rd = y.rd ∧ x.out = y.out ∧ x.st = y.st ∧ x.en = y.en
instance (x y : Mst) : Decidable (x.eqv y) := inferInstanceAs (Decidable (_ ∧ _))
theorem eqv_self (x : Mst) : x.eqv x := ⟨rfl, rfl, rfl, rfl, rfl, rfl, rfl⟩
set_option maxRecDepth 100000 in
set_option maxHeartbeats 4000000 in
theorem same9_ref {A B : Option Addr} {n c m e : Nat} (x y : Mst) (w : World) (ha : Rd w A n x.mem) (hb : Rd w B m y.mem) (hn : n ≤ 1073741824) (hm : m ≤ 1073741824) :
    Calls Tryd.prog 11 #[.agg (stc x.pc x.g (.slice A n c) x.rd x.out x.st x.en), .agg (stc y.pc y.g (.slice B m e) y.rd y.out y.st y.en)] w fun en w' => en = .returned (.bool (decide (x.eqv y))) ∧ Below w.heap.size w w' := by
  have hk := ((Kx.nil none w).more (.cells (stc x.pc x.g (.slice A n c) x.rd x.out x.st x.en) 30 (0, 0))).add (w.heap.size + 1) (by simp) (.cells (stc y.pc y.g (.slice B m e) y.rd y.out y.st y.en) 30 (0, 0))
  obtain ⟨W0, hW0⟩ : ∃ W, (w.alloc (.cells (stc x.pc x.g (.slice A n c) x.rd x.out x.st x.en) 30 (0, 0))).alloc (.cells (stc y.pc y.g (.slice B m e) y.rd y.out y.st y.en) 30 (0, 0)) = W := ⟨_, rfl⟩
  rw [hW0] at hk
  have a0 := row_cell (hk.at 0 rfl) 0 (stc_pc _ _ _ _ _ _ _)
  have b0 := row_cell (hk.at 1 rfl) 0 (stc_pc _ _ _ _ _ _ _)
  have a1 := Lib.hid (range16 (hk.at 0 rfl))
  have b1 := Lib.hid (range16 (hk.at 1 rfl))
  have a2 := row_cell (hk.at 0 rfl) 17 (stc_mem _ _ _ _ _ _ _)
  have b2 := row_cell (hk.at 1 rfl) 17 (stc_mem _ _ _ _ _ _ _)
  have q16 := eq16 W0 x.g y.g
  have HK := Lib.hid hk
  have cw := words9_ref (c := c) (e := e) W0 (ha.below hk.be.plain) (hb.below hk.be.plain) hn hm
  clear hk ha hb hn hm
  by_cases h0 : x.pc = y.pc
  · by_cases h1 : regs x.g = regs y.g
    · by_cases h2 : x.mem = y.mem
      · by_cases h3 : x.rd = y.rd
        · by_cases h4 : x.out = y.out
          · by_cases h5 : x.st = y.st
            · by_cases h6 : x.en = y.en
              · rw [decide_eq_true h1] at q16
                have e0 := beq_iff_eq.2 h0
                rw [decide_eq_true (show x.eqv y from ⟨h0, h1, h2, h3, h4, h5, h6⟩)]
                rw [decide_eq_true h2] at cw
                have CW := Lib.hid cw
                clear cw
                have e3 := beq_iff_eq.2 h3
                have e5 := beq_iff_eq.2 h5
                have e6 := beq_iff_eq.2 h6
                have e4 := str_eq h4
                clear h0 h1 h2 h3 h4 h5 h6
                go_enter Tryd.func11, Tryd.ntmps11
                go_wp2_with (first
                  | (refine wpList_load_midg (by rfl) 28 _ rfl _ 1 rfl _ _ a1.out Tryd.underlying28 rfl (info16' _) ?_)
                  | (refine wpList_load_midg (by rfl) 28 _ rfl _ 1 rfl _ _ b1.out Tryd.underlying28 rfl (info16' _) ?_)
                  | fail)
                refine CW.out.mono ?_
                rintro e w1 ⟨rfl, hbe⟩
                replace HK := Lib.hid (HK.out.after hbe)
                clear hbe a0 b0 a1 b1 a2 b2 q16
                have a3 := row_cell (HK.out.at 0 rfl) 18 (stc_rd _ _ _ _ _ _ _)
                have b3 := row_cell (HK.out.at 1 rfl) 18 (stc_rd _ _ _ _ _ _ _)
                have a4 := row_cell (HK.out.at 0 rfl) 19 (stc_out _ _ _ _ _ _ _)
                have b4 := row_cell (HK.out.at 1 rfl) 19 (stc_out _ _ _ _ _ _ _)
                have a5 := row_cell (HK.out.at 0 rfl) 20 (stc_st _ _ _ _ _ _ _)
                have b5 := row_cell (HK.out.at 1 rfl) 20 (stc_st _ _ _ _ _ _ _)
                have a6 := row_cell (HK.out.at 0 rfl) 21 (stc_en _ _ _ _ _ _ _)
                have b6 := row_cell (HK.out.at 1 rfl) 21 (stc_en _ _ _ _ _ _ _)
                go_wp2_with fail
                go_ret
                exact ⟨rfl, HK.out.be.plain⟩
              · rw [decide_eq_true h1] at q16
                have e0 := beq_iff_eq.2 h0
                rw [decide_eq_false (show ¬ x.eqv y from fun h => h6 h.2.2.2.2.2.2)]
                rw [decide_eq_true h2] at cw
                have CW := Lib.hid cw
                clear cw
                have e3 := beq_iff_eq.2 h3
                have e5 := beq_iff_eq.2 h5
                have e6 := beq_eq_false_iff_ne.2 h6
                have e4 := str_eq h4
                clear h0 h1 h2 h3 h4 h5 h6
                go_enter Tryd.func11, Tryd.ntmps11
                go_wp2_with (first
                  | (refine wpList_load_midg (by rfl) 28 _ rfl _ 1 rfl _ _ a1.out Tryd.underlying28 rfl (info16' _) ?_)
                  | (refine wpList_load_midg (by rfl) 28 _ rfl _ 1 rfl _ _ b1.out Tryd.underlying28 rfl (info16' _) ?_)
                  | fail)
                refine CW.out.mono ?_
                rintro e w1 ⟨rfl, hbe⟩
                replace HK := Lib.hid (HK.out.after hbe)
                clear hbe a0 b0 a1 b1 a2 b2 q16
                have a3 := row_cell (HK.out.at 0 rfl) 18 (stc_rd _ _ _ _ _ _ _)
                have b3 := row_cell (HK.out.at 1 rfl) 18 (stc_rd _ _ _ _ _ _ _)
                have a4 := row_cell (HK.out.at 0 rfl) 19 (stc_out _ _ _ _ _ _ _)
                have b4 := row_cell (HK.out.at 1 rfl) 19 (stc_out _ _ _ _ _ _ _)
                have a5 := row_cell (HK.out.at 0 rfl) 20 (stc_st _ _ _ _ _ _ _)
                have b5 := row_cell (HK.out.at 1 rfl) 20 (stc_st _ _ _ _ _ _ _)
                have a6 := row_cell (HK.out.at 0 rfl) 21 (stc_en _ _ _ _ _ _ _)
                have b6 := row_cell (HK.out.at 1 rfl) 21 (stc_en _ _ _ _ _ _ _)
                go_wp2_with fail
                go_ret
                exact ⟨rfl, HK.out.be.plain⟩
            · rw [decide_eq_true h1] at q16
              have e0 := beq_iff_eq.2 h0
              rw [decide_eq_false (show ¬ x.eqv y from fun h => h5 h.2.2.2.2.2.1)]
              rw [decide_eq_true h2] at cw
              have CW := Lib.hid cw
              clear cw
              have e3 := beq_iff_eq.2 h3
              have e5 := beq_eq_false_iff_ne.2 h5
              have e4 := str_eq h4
              clear h0 h1 h2 h3 h4 h5
              go_enter Tryd.func11, Tryd.ntmps11
              go_wp2_with (first
                | (refine wpList_load_midg (by rfl) 28 _ rfl _ 1 rfl _ _ a1.out Tryd.underlying28 rfl (info16' _) ?_)
                | (refine wpList_load_midg (by rfl) 28 _ rfl _ 1 rfl _ _ b1.out Tryd.underlying28 rfl (info16' _) ?_)
                | fail)
              refine CW.out.mono ?_
              rintro e w1 ⟨rfl, hbe⟩
              replace HK := Lib.hid (HK.out.after hbe)
              clear hbe a0 b0 a1 b1 a2 b2 q16
              have a3 := row_cell (HK.out.at 0 rfl) 18 (stc_rd _ _ _ _ _ _ _)
              have b3 := row_cell (HK.out.at 1 rfl) 18 (stc_rd _ _ _ _ _ _ _)
              have a4 := row_cell (HK.out.at 0 rfl) 19 (stc_out _ _ _ _ _ _ _)
              have b4 := row_cell (HK.out.at 1 rfl) 19 (stc_out _ _ _ _ _ _ _)
              have a5 := row_cell (HK.out.at 0 rfl) 20 (stc_st _ _ _ _ _ _ _)
              have b5 := row_cell (HK.out.at 1 rfl) 20 (stc_st _ _ _ _ _ _ _)
              have a6 := row_cell (HK.out.at 0 rfl) 21 (stc_en _ _ _ _ _ _ _)
              have b6 := row_cell (HK.out.at 1 rfl) 21 (stc_en _ _ _ _ _ _ _)
              go_wp2_with fail
              go_ret
              exact ⟨rfl, HK.out.be.plain⟩
          · rw [decide_eq_true h1] at q16
            have e0 := beq_iff_eq.2 h0
            rw [decide_eq_false (show ¬ x.eqv y from fun h => h4 h.2.2.2.2.1)]
            rw [decide_eq_true h2] at cw
            have CW := Lib.hid cw
            clear cw
            have e3 := beq_iff_eq.2 h3
            have e4 := str_ne h4
            clear h0 h1 h2 h3 h4
            go_enter Tryd.func11, Tryd.ntmps11
            go_wp2_with (first
              | (refine wpList_load_midg (by rfl) 28 _ rfl _ 1 rfl _ _ a1.out Tryd.underlying28 rfl (info16' _) ?_)
              | (refine wpList_load_midg (by rfl) 28 _ rfl _ 1 rfl _ _ b1.out Tryd.underlying28 rfl (info16' _) ?_)
              | fail)
            refine CW.out.mono ?_
            rintro e w1 ⟨rfl, hbe⟩
            replace HK := Lib.hid (HK.out.after hbe)
            clear hbe a0 b0 a1 b1 a2 b2 q16
            have a3 := row_cell (HK.out.at 0 rfl) 18 (stc_rd _ _ _ _ _ _ _)
            have b3 := row_cell (HK.out.at 1 rfl) 18 (stc_rd _ _ _ _ _ _ _)
            have a4 := row_cell (HK.out.at 0 rfl) 19 (stc_out _ _ _ _ _ _ _)
            have b4 := row_cell (HK.out.at 1 rfl) 19 (stc_out _ _ _ _ _ _ _)
            have a5 := row_cell (HK.out.at 0 rfl) 20 (stc_st _ _ _ _ _ _ _)
            have b5 := row_cell (HK.out.at 1 rfl) 20 (stc_st _ _ _ _ _ _ _)
            have a6 := row_cell (HK.out.at 0 rfl) 21 (stc_en _ _ _ _ _ _ _)
            have b6 := row_cell (HK.out.at 1 rfl) 21 (stc_en _ _ _ _ _ _ _)
            go_wp2_with fail
            go_ret
            exact ⟨rfl, HK.out.be.plain⟩
        · rw [decide_eq_true h1] at q16
          have e0 := beq_iff_eq.2 h0
          rw [decide_eq_false (show ¬ x.eqv y from fun h => h3 h.2.2.2.1)]
          rw [decide_eq_true h2] at cw
          have CW := Lib.hid cw
          clear cw
          have e3 := beq_eq_false_iff_ne.2 h3
          clear h0 h1 h2 h3
          go_enter Tryd.func11, Tryd.ntmps11
          go_wp2_with (first
            | (refine wpList_load_midg (by rfl) 28 _ rfl _ 1 rfl _ _ a1.out Tryd.underlying28 rfl (info16' _) ?_)
            | (refine wpList_load_midg (by rfl) 28 _ rfl _ 1 rfl _ _ b1.out Tryd.underlying28 rfl (info16' _) ?_)
            | fail)
          refine CW.out.mono ?_
          rintro e w1 ⟨rfl, hbe⟩
          replace HK := Lib.hid (HK.out.after hbe)
          clear hbe a0 b0 a1 b1 a2 b2 q16
          have a3 := row_cell (HK.out.at 0 rfl) 18 (stc_rd _ _ _ _ _ _ _)
          have b3 := row_cell (HK.out.at 1 rfl) 18 (stc_rd _ _ _ _ _ _ _)
          have a4 := row_cell (HK.out.at 0 rfl) 19 (stc_out _ _ _ _ _ _ _)
          have b4 := row_cell (HK.out.at 1 rfl) 19 (stc_out _ _ _ _ _ _ _)
          have a5 := row_cell (HK.out.at 0 rfl) 20 (stc_st _ _ _ _ _ _ _)
          have b5 := row_cell (HK.out.at 1 rfl) 20 (stc_st _ _ _ _ _ _ _)
          have a6 := row_cell (HK.out.at 0 rfl) 21 (stc_en _ _ _ _ _ _ _)
          have b6 := row_cell (HK.out.at 1 rfl) 21 (stc_en _ _ _ _ _ _ _)
          go_wp2_with fail
          go_ret
          exact ⟨rfl, HK.out.be.plain⟩
      · rw [decide_eq_true h1] at q16
        have e0 := beq_iff_eq.2 h0
        rw [decide_eq_false (show ¬ x.eqv y from fun h => h2 h.2.2.1)]
        rw [decide_eq_false h2] at cw
        have CW := Lib.hid cw
        clear cw
        clear h0 h1 h2
        go_enter Tryd.func11, Tryd.ntmps11
        go_wp2_with (first
          | (refine wpList_load_midg (by rfl) 28 _ rfl _ 1 rfl _ _ a1.out Tryd.underlying28 rfl (info16' _) ?_)
          | (refine wpList_load_midg (by rfl) 28 _ rfl _ 1 rfl _ _ b1.out Tryd.underlying28 rfl (info16' _) ?_)
          | fail)
        refine CW.out.mono ?_
        rintro e w1 ⟨rfl, hbe⟩
        replace HK := Lib.hid (HK.out.after hbe)
        clear hbe a0 b0 a1 b1 a2 b2 q16
        have a3 := row_cell (HK.out.at 0 rfl) 18 (stc_rd _ _ _ _ _ _ _)
        have b3 := row_cell (HK.out.at 1 rfl) 18 (stc_rd _ _ _ _ _ _ _)
        have a4 := row_cell (HK.out.at 0 rfl) 19 (stc_out _ _ _ _ _ _ _)
        have b4 := row_cell (HK.out.at 1 rfl) 19 (stc_out _ _ _ _ _ _ _)
        have a5 := row_cell (HK.out.at 0 rfl) 20 (stc_st _ _ _ _ _ _ _)
        have b5 := row_cell (HK.out.at 1 rfl) 20 (stc_st _ _ _ _ _ _ _)
        have a6 := row_cell (HK.out.at 0 rfl) 21 (stc_en _ _ _ _ _ _ _)
        have b6 := row_cell (HK.out.at 1 rfl) 21 (stc_en _ _ _ _ _ _ _)
        go_wp2_with fail
        go_ret
        exact ⟨rfl, HK.out.be.plain⟩
    · rw [decide_eq_false h1] at q16
      have e0 := beq_iff_eq.2 h0
      rw [decide_eq_false (show ¬ x.eqv y from fun h => h1 h.2.1)]
      clear cw
      clear h0 h1
      go_enter Tryd.func11, Tryd.ntmps11
      go_wp2_with (first
        | (refine wpList_load_midg (by rfl) 28 _ rfl _ 1 rfl _ _ a1.out Tryd.underlying28 rfl (info16' _) ?_)
        | (refine wpList_load_midg (by rfl) 28 _ rfl _ 1 rfl _ _ b1.out Tryd.underlying28 rfl (info16' _) ?_)
        | fail)
      go_ret
      exact ⟨rfl, HK.out.be.plain⟩
  · have e0 := beq_eq_false_iff_ne.2 h0
    rw [decide_eq_false (show ¬ x.eqv y from fun h => h0 h.1)]
    clear cw
    clear h0
    go_enter Tryd.func11, Tryd.ntmps11
    go_wp2_with (first
      | (refine wpList_load_midg (by rfl) 28 _ rfl _ 1 rfl _ _ a1.out Tryd.underlying28 rfl (info16' _) ?_)
      | (refine wpList_load_midg (by rfl) 28 _ rfl _ 1 rfl _ _ b1.out Tryd.underlying28 rfl (info16' _) ?_)
      | fail)
    go_ret
    exact ⟨rfl, HK.out.be.plain⟩
end Go.Proofs.YtgojpflkhnaedaaDoor
