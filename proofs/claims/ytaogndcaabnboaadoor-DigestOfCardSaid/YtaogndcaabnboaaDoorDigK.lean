/- The law's awake: the document's examples: true. -/
import Derived.Test.YtaogndcaabnboaaDoorDigZ
set_option linter.unusedVariables false
namespace Go.Proofs.YtaogndcaabnboaaDoor
open Go.RowKit

theorem plainU : Tryd.prog.plainKey 22 = true := by kernel_rfl
theorem cellsU : Tryd.prog.cellsOf 22 = 1 := by kernel_rfl
theorem part_word (w : World) (xs : Ws) (i : Nat) (h : i < xs.length) : (part 22 (xs.map (Value.int .u32)).toArray i).run Tryd.prog w = .ok (.int .u32 (xs.getD i 0)) w := by
  refine run_part_plain w plainU ?_
  simp [List.getD, h]
theorem eqItems_words (w : World) (d : Nat) (xs ys : Ws) : ∀ (is : List Nat), (∀ i ∈ is, i < xs.length ∧ i < ys.length) →
    (Op.eqItems (d + 1) 22 (Tryd.prog.cellsOf 22) (xs.map (Value.int .u32)).toArray (ys.map (Value.int .u32)).toArray is).run Tryd.prog w = .ok (is.all fun i => xs.getD i 0 == ys.getD i 0) w
  | [], _ => by simp [Op.eqItems]
  | i :: is, h => by
    obtain ⟨h1, h2⟩ := h i (by simp)
    have ih := eqItems_words w d xs ys is (fun j hj => h j (by simp [hj]))
    rw [Op.eqItems, cellsU, Nat.mul_one]
    simp only [Sem.run_bind, part_word w xs i h1, part_word w ys i h2, Result.andThen_ok, run_equalIn_int w d 22 .u32 .u32 _ _ Tryd.underlying22]
    rw [cellsU] at ih
    cases hc : (xs.getD i 0 == ys.getD i 0) with
    | true => simp only [Bool.not_true, Bool.false_eq_true, if_false, List.all_cons, hc, Bool.true_and]; exact ih
    | false => simp only [Bool.not_false, if_true, List.all_cons, hc, Bool.false_and]; rfl
theorem infoU : ∃ i, Tryd.prog.info? 22 = some i := by
  obtain ⟨i, hi, _⟩ := info_parts infoU32
  exact ⟨i, hi⟩
theorem eq4 (w : World) (a0 a1 a2 a3 b0 b1 b2 b3 : Int) : (Op.equalIn 10000 29 (.agg #[.int .u32 a0, .int .u32 a1, .int .u32 a2, .int .u32 a3]) (.agg #[.int .u32 b0, .int .u32 b1, .int .u32 b2, .int .u32 b3])).run Tryd.prog w = .ok (decide ([a0, a1, a2, a3] = [b0, b1, b2, b3])) w := by
  obtain ⟨i, hi⟩ := infoU
  have h := run_equalIn_array (P := Tryd.prog) (w := w) 9999 #[.int .u32 a0, .int .u32 a1, .int .u32 a2, .int .u32 a3] #[.int .u32 b0, .int .u32 b1, .int .u32 b2, .int .u32 b3] Tryd.underlying29 hi
  rw [h]
  have k := eqItems_words w 9998 [a0, a1, a2, a3] [b0, b1, b2, b3] (List.range 4) (by intro i hi; simpa using hi)
  refine k.trans ?_
  congr 1
  show (a0 == b0 && (a1 == b1 && (a2 == b2 && (a3 == b3 && true)))) = decide _
  rw [Bool.eq_iff_iff]
  simp
theorem eq8 (w : World) (a0 a1 a2 a3 a4 a5 a6 a7 b0 b1 b2 b3 b4 b5 b6 b7 : Int) : (Op.equalIn 10000 23 (.agg #[.int .u32 a0, .int .u32 a1, .int .u32 a2, .int .u32 a3, .int .u32 a4, .int .u32 a5, .int .u32 a6, .int .u32 a7]) (.agg #[.int .u32 b0, .int .u32 b1, .int .u32 b2, .int .u32 b3, .int .u32 b4, .int .u32 b5, .int .u32 b6, .int .u32 b7])).run Tryd.prog w = .ok (decide ([a0, a1, a2, a3, a4, a5, a6, a7] = [b0, b1, b2, b3, b4, b5, b6, b7])) w := by
  obtain ⟨i, hi⟩ := infoU
  have h := run_equalIn_array (P := Tryd.prog) (w := w) 9999 #[.int .u32 a0, .int .u32 a1, .int .u32 a2, .int .u32 a3, .int .u32 a4, .int .u32 a5, .int .u32 a6, .int .u32 a7] #[.int .u32 b0, .int .u32 b1, .int .u32 b2, .int .u32 b3, .int .u32 b4, .int .u32 b5, .int .u32 b6, .int .u32 b7] Tryd.underlying23 hi
  rw [h]
  have k := eqItems_words w 9998 [a0, a1, a2, a3, a4, a5, a6, a7] [b0, b1, b2, b3, b4, b5, b6, b7] (List.range 8) (by intro i hi; simpa using hi)
  refine k.trans ?_
  congr 1
  show (a0 == b0 && (a1 == b1 && (a2 == b2 && (a3 == b3 && (a4 == b4 && (a5 == b5 && (a6 == b6 && (a7 == b7 && true)))))))) = decide _
  rw [Bool.eq_iff_iff]
  simp

theorem mix_18 : mix [1, 2, 3, 4, 5, 6, 7, 8] = [2423752598, 2489644812, 755327620, 4151819776, 2197377647, 4195358711, 2872994903, 3928952227] := by decide +kernel
theorem ok_18 : Ok8 [1, 2, 3, 4, 5, 6, 7, 8] := by
  refine ⟨rfl, ?_⟩
  intro x hx
  simp only [List.mem_cons, List.not_mem_nil, or_false] at hx
  unfold W32
  rcases hx with rfl | rfl | rfl | rfl | rfl | rfl | rfl | rfl <;> omega
theorem prd_yes : prd [48, 48, 48, 48, 48, 48, 48, 49, 48, 48, 48, 48, 48, 48, 48, 50, 48, 48, 48, 48, 48, 48, 48, 51, 48, 48, 48, 48, 48, 48, 70, 70] = ([1, 2, 3, 255], 0) := by decide +kernel
theorem prd_no : prd [48, 48] = ([0, 0, 0, 0], 3) := by decide +kernel
theorem dtx_yes : dtx [1, 2, 3, 255] = ⟨#[48, 48, 48, 48, 48, 48, 48, 49, 48, 48, 48, 48, 48, 48, 48, 50, 48, 48, 48, 48, 48, 48, 48, 51, 48, 48, 48, 48, 48, 48, 102, 102]⟩ := by decide +kernel

theorem parse_yes (w : World) (ht : Tabs w) : Calls Tryd.prog 21 #[.string ⟨#[48, 48, 48, 48, 48, 48, 48, 49, 48, 48, 48, 48, 48, 48, 48, 50, 48, 48, 48, 48, 48, 48, 48, 51, 48, 48, 48, 48, 48, 48, 70, 70]⟩] w fun e w' => e = .returned (.tuple #[.agg #[.int .u32 1, .int .u32 2, .int .u32 3, .int .u32 255], .int .i64 0]) ∧ Below w.heap.size w w' := by
  have h := parse_code ⟨#[48, 48, 48, 48, 48, 48, 48, 49, 48, 48, 48, 48, 48, 48, 48, 50, 48, 48, 48, 48, 48, 48, 48, 51, 48, 48, 48, 48, 48, 48, 70, 70]⟩ w ht
  rw [prd_yes] at h
  exact h
theorem parse_no (w : World) (ht : Tabs w) : Calls Tryd.prog 21 #[.string ⟨#[48, 48]⟩] w fun e w' => e = .returned (.tuple #[.agg #[.int .u32 0, .int .u32 0, .int .u32 0, .int .u32 0], .int .i64 3]) ∧ Below w.heap.size w w' := by
  have h := parse_code ⟨#[48, 48]⟩ w ht
  rw [prd_no] at h
  exact h
theorem text_yes (w : World) (ht : Tabs w) : Calls Tryd.prog 20 #[.agg #[.int .u32 1, .int .u32 2, .int .u32 3, .int .u32 255]] w fun e w' => e = .returned (.string ⟨#[48, 48, 48, 48, 48, 48, 48, 49, 48, 48, 48, 48, 48, 48, 48, 50, 48, 48, 48, 48, 48, 48, 48, 51, 48, 48, 48, 48, 48, 48, 102, 102]⟩) ∧ Below w.heap.size w w' := by
  have h := text_code [1, 2, 3, 255] w (mk4 ⟨by omega, by omega⟩ ⟨by omega, by omega⟩ ⟨by omega, by omega⟩ ⟨by omega, by omega⟩) ht
  rw [dtx_yes] at h
  exact h
theorem mix_yes (w : World) (ht : Tabs w) : Calls Tryd.prog 12 #[.agg #[.int .u32 1, .int .u32 2, .int .u32 3, .int .u32 4, .int .u32 5, .int .u32 6, .int .u32 7, .int .u32 8]] w fun e w' => e = .returned (.agg #[.int .u32 2423752598, .int .u32 2489644812, .int .u32 755327620, .int .u32 4151819776, .int .u32 2197377647, .int .u32 4195358711, .int .u32 2872994903, .int .u32 3928952227]) ∧ Below w.heap.size w w' := by
  have h := mix_code [1, 2, 3, 4, 5, 6, 7, 8] w ok_18 ht
  rw [mix_18] at h
  exact h
theorem unmix_yes (w : World) (ht : Tabs w) : Calls Tryd.prog 14 #[.agg #[.int .u32 2423752598, .int .u32 2489644812, .int .u32 755327620, .int .u32 4151819776, .int .u32 2197377647, .int .u32 4195358711, .int .u32 2872994903, .int .u32 3928952227]] w fun e w' => e = .returned (.agg #[.int .u32 1, .int .u32 2, .int .u32 3, .int .u32 4, .int .u32 5, .int .u32 6, .int .u32 7, .int .u32 8]) ∧ Below w.heap.size w w' := by
  have h0 := unmix_mix ok_18
  have ho := mix_ok ok_18
  rw [mix_18] at h0 ho
  have h := unmix_code _ w ho ht
  rw [h0] at h
  exact h

/-- A digest and a state stand in two blocks. -/
structure K3 (w W : World) (n m : Nat) : Prop where
  hd : W.heap[n]? = some (.cells #[.int .u32 1, .int .u32 2, .int .u32 3, .int .u32 255] 29 (0, 0))
  hs : W.heap[m]? = some (.cells #[.int .u32 1, .int .u32 2, .int .u32 3, .int .u32 4, .int .u32 5, .int .u32 6, .int .u32 7, .int .u32 8] 23 (0, 0))
  be : Below w.heap.size w W
  hn : n < W.heap.size
  hm : m < W.heap.size
theorem K3.after {w W W' : World} {n m : Nat} (h : K3 w W n m) (hb : Below W.heap.size W W') : K3 w W' n m :=
  ⟨by rw [hb.block _ h.hn]; exact h.hd, by rw [hb.block _ h.hm]; exact h.hs, h.be.trans (hb.mono h.be.size), Nat.lt_of_lt_of_le h.hn hb.size, Nat.lt_of_lt_of_le h.hm hb.size⟩
theorem K3.drew {w W : World} {n m : Nat} (h : K3 w W n m) : K3 w W.drew n m := ⟨h.hd, h.hs, h.be.drew, h.hn, h.hm⟩
theorem K3.cells {w W : World} {n m : Nat} (h : K3 w W n m) : (W.cell? ⟨n, 0, none⟩ = some (.int .u32 1) ∧ W.cell? ⟨n, 1, none⟩ = some (.int .u32 2) ∧ W.cell? ⟨n, 2, none⟩ = some (.int .u32 3) ∧ W.cell? ⟨n, 3, none⟩ = some (.int .u32 255)) ∧
    (W.cell? ⟨m, 0, none⟩ = some (.int .u32 1) ∧ W.cell? ⟨m, 1, none⟩ = some (.int .u32 2) ∧ W.cell? ⟨m, 2, none⟩ = some (.int .u32 3) ∧ W.cell? ⟨m, 3, none⟩ = some (.int .u32 4) ∧ W.cell? ⟨m, 4, none⟩ = some (.int .u32 5) ∧ W.cell? ⟨m, 5, none⟩ = some (.int .u32 6) ∧ W.cell? ⟨m, 6, none⟩ = some (.int .u32 7) ∧ W.cell? ⟨m, 7, none⟩ = some (.int .u32 8)) := by
  obtain ⟨a0, a1, a2, a3, _⟩ := cells4 h.hd
  obtain ⟨b0, b1, b2, b3, b4, b5, b6, b7, _⟩ := cells8 h.hs
  exact ⟨⟨a0, a1, a2, a3⟩, b0, b1, b2, b3, b4, b5, b6, b7⟩

set_option maxRecDepth 100000 in
set_option maxHeartbeats 1000000 in
theorem awake_any (w : World) (ht : Tabs w) :
    Calls Tryd.prog 11 #[] w fun e w' => e = .returned (.bool true) ∧ Below w.heap.size w w' := by
  have HT := Lib.hid ht
  clear ht
  go_enter Tryd.func11, Tryd.ntmps11
  go_wp2_with fail
  refine (parse_yes _ HT.out).mono ?_
  rintro e w1 ⟨rfl, b1⟩
  have HB1 := Lib.hid b1
  clear b1
  go_wp2_with fail
  refine (parse_no _ (HT.out.below (HB1.out.alloc HB1.out.size _))).mono ?_
  rintro e w2 ⟨rfl, b2⟩
  have l1 := b2.size
  rw [World.size_alloc] at l1
  have HK : Hid (K3 w ((w2.alloc (.cells #[.int .u32 0, .int .u32 0, .int .u32 0, .int .u32 0] 29)).alloc (.cells #[.int .u32 1, .int .u32 2, .int .u32 3, .int .u32 4, .int .u32 5, .int .u32 6, .int .u32 7, .int .u32 8] 23)).drew w1.heap.size (w2.heap.size + 1)) := by
    show K3 _ _ _ _
    have hb := HB1.out
    have hs := hb.size
    refine ⟨?_, ?_, ?_, by simp; omega, by simp⟩
    · rw [heap_drew, Below.heap_alloc _ _ _ (by simp; omega), Below.heap_alloc _ _ _ (by omega), b2.block _ (by simp), heap_alloc_new]
    · rw [heap_drew]
      have := heap_alloc_new (w2.alloc (.cells #[.int .u32 0, .int .u32 0, .int .u32 0, .int .u32 0] 29)) (.cells #[.int .u32 1, .int .u32 2, .int .u32 3, .int .u32 4, .int .u32 5, .int .u32 6, .int .u32 7, .int .u32 8] 23)
      simpa using this
    · exact (((hb.alloc hs _).trans (b2.mono (by simp; omega))).alloc (by omega) _ |>.alloc (by simp; omega) _).drew
  have l2 : w1.heap.size < w2.heap.size := by omega
  have hd2 : w2.heap[w1.heap.size]? = some (.cells #[.int .u32 1, .int .u32 2, .int .u32 3, .int .u32 255] 29 (0, 0)) := by rw [b2.block _ (by simp), heap_alloc_new]
  obtain ⟨a0, a1, a2, a3, _⟩ := cells4 hd2
  clear b2 l1 hd2
  have q4 := eq4
  have q8 := eq8
  go_wp2_with fail
  go_region_law (first
    | (go_simp; go_at_call 20; with_reducible refine (text_yes _ (HT.out.below HK.out.be)).mono ?_; rintro e w' ⟨rfl, hb⟩; replace HK := Lib.hid (HK.out.after hb); clear hb; obtain ⟨⟨a0, a1, a2, a3⟩, b0, b1, b2, b3, b4, b5, b6, b7⟩ := HK.out.cells)
    | (go_simp; go_at_call 12; with_reducible refine (mix_yes _ (HT.out.below HK.out.be)).mono ?_; rintro e w' ⟨rfl, hb⟩; replace HK := Lib.hid (HK.out.after hb); clear hb; obtain ⟨⟨a0, a1, a2, a3⟩, b0, b1, b2, b3, b4, b5, b6, b7⟩ := HK.out.cells)
    | (go_simp; go_at_call 14; with_reducible refine (unmix_yes _ (HT.out.below HK.out.be)).mono ?_; rintro e w' ⟨rfl, hb⟩; replace HK := Lib.hid (HK.out.after hb); clear hb; obtain ⟨⟨a0, a1, a2, a3⟩, b0, b1, b2, b3, b4, b5, b6, b7⟩ := HK.out.cells))
  all_goals
    go_wp2_with fail
    go_ret
    exact ⟨rfl, HK.out.be⟩
end Go.Proofs.YtaogndcaabnboaaDoor
