/- The law's awake: the document's examples: true. -/
import Derived.Test.YtflggcnojfmlmaaDoorDigX
import Derived.Test.YtflggcnojfmlmaaDoorEq
set_option linter.unusedVariables false
namespace Go.Proofs.YtflggcnojfmlmaaDoor
open Go.RowKit

theorem mix_18 : mix [1, 2, 3, 4, 5, 6, 7, 8] = [2423752598, 2489644812, 755327620, 4151819776, 2197377647, 4195358711, 2872994903, 3928952227] := by decide +kernel
theorem ok_18 : Ok8 [1, 2, 3, 4, 5, 6, 7, 8] := by
  refine ⟨rfl, ?_⟩
  intro x hx
  simp only [List.mem_cons, List.not_mem_nil, or_false] at hx
  unfold W32
  rcases hx with rfl | rfl | rfl | rfl | rfl | rfl | rfl | rfl <;> omega
theorem prd_yes : prd [48, 48, 48, 48, 48, 48, 48, 49, 48, 48, 48, 48, 48, 48, 48, 50, 48, 48, 48, 48, 48, 48, 48, 51, 48, 48, 48, 48, 48, 48, 70, 70] = ([1, 2, 3, 255], 0) := by decide +kernel
theorem prd_no : prd [48, 48] = ([0, 0, 0, 0], 3) := by decide +kernel
theorem dtx_yes : dtx [1, 2, 3, 255] = ⟨#[48, 48, 48, 48, 48, 48, 48, 49, 48, 48, 48, 48, 48, 48, 48, 50, 48, 48, 48, 48, 48, 48, 48, 51, 48, 48, 48, 48, 48, 48, 102, 102]⟩ := by decide +kernel

theorem parse_yes (w : World) (ht : Tabs w) : Calls Tryd.prog 7 #[.string ⟨#[48, 48, 48, 48, 48, 48, 48, 49, 48, 48, 48, 48, 48, 48, 48, 50, 48, 48, 48, 48, 48, 48, 48, 51, 48, 48, 48, 48, 48, 48, 70, 70]⟩] w fun e w' => e = .returned (.tuple #[.agg #[.int .u32 1, .int .u32 2, .int .u32 3, .int .u32 255], .int .i64 0]) ∧ Below w.heap.size w w' := by
  have h := parse_code ⟨#[48, 48, 48, 48, 48, 48, 48, 49, 48, 48, 48, 48, 48, 48, 48, 50, 48, 48, 48, 48, 48, 48, 48, 51, 48, 48, 48, 48, 48, 48, 70, 70]⟩ w ht
  rw [prd_yes] at h
  exact h
theorem parse_no (w : World) (ht : Tabs w) : Calls Tryd.prog 7 #[.string ⟨#[48, 48]⟩] w fun e w' => e = .returned (.tuple #[.agg #[.int .u32 0, .int .u32 0, .int .u32 0, .int .u32 0], .int .i64 3]) ∧ Below w.heap.size w w' := by
  have h := parse_code ⟨#[48, 48]⟩ w ht
  rw [prd_no] at h
  exact h
theorem text_yes (w : World) (ht : Tabs w) : Calls Tryd.prog 8 #[.agg #[.int .u32 1, .int .u32 2, .int .u32 3, .int .u32 255]] w fun e w' => e = .returned (.string ⟨#[48, 48, 48, 48, 48, 48, 48, 49, 48, 48, 48, 48, 48, 48, 48, 50, 48, 48, 48, 48, 48, 48, 48, 51, 48, 48, 48, 48, 48, 48, 102, 102]⟩) ∧ Below w.heap.size w w' := by
  have h := text_code [1, 2, 3, 255] w (mk4 ⟨by omega, by omega⟩ ⟨by omega, by omega⟩ ⟨by omega, by omega⟩ ⟨by omega, by omega⟩) ht
  rw [dtx_yes] at h
  exact h
theorem mix_yes (w : World) (ht : Tabs w) : Calls Tryd.prog 10 #[.agg #[.int .u32 1, .int .u32 2, .int .u32 3, .int .u32 4, .int .u32 5, .int .u32 6, .int .u32 7, .int .u32 8]] w fun e w' => e = .returned (.agg #[.int .u32 2423752598, .int .u32 2489644812, .int .u32 755327620, .int .u32 4151819776, .int .u32 2197377647, .int .u32 4195358711, .int .u32 2872994903, .int .u32 3928952227]) ∧ Below w.heap.size w w' := by
  have h := mix_code [1, 2, 3, 4, 5, 6, 7, 8] w ok_18 ht
  rw [mix_18] at h
  exact h
theorem unmix_yes (w : World) (ht : Tabs w) : Calls Tryd.prog 9 #[.agg #[.int .u32 2423752598, .int .u32 2489644812, .int .u32 755327620, .int .u32 4151819776, .int .u32 2197377647, .int .u32 4195358711, .int .u32 2872994903, .int .u32 3928952227]] w fun e w' => e = .returned (.agg #[.int .u32 1, .int .u32 2, .int .u32 3, .int .u32 4, .int .u32 5, .int .u32 6, .int .u32 7, .int .u32 8]) ∧ Below w.heap.size w w' := by
  have h0 := unmix_mix ok_18
  have ho := mix_ok ok_18
  rw [mix_18] at h0 ho
  have h := unmix_code _ w ho ht
  rw [h0] at h
  exact h

/-- A digest and a state stand in two blocks. -/
structure K3 (w W : World) (n m : Nat) : Prop where
  hd : W.heap[n]? = some (.cells #[.int .u32 1, .int .u32 2, .int .u32 3, .int .u32 255] 29 (0, 0))
  hs : W.heap[m]? = some (.cells #[.int .u32 1, .int .u32 2, .int .u32 3, .int .u32 4, .int .u32 5, .int .u32 6, .int .u32 7, .int .u32 8] 26 (0, 0))
  be : Below w.heap.size w W
  hn : n < W.heap.size
  hm : m < W.heap.size
theorem K3.after {w W W' : World} {n m : Nat} (h : K3 w W n m) (hb : Below W.heap.size W W') : K3 w W' n m :=
  ⟨by rw [hb.block _ h.hn]; exact h.hd, by rw [hb.block _ h.hm]; exact h.hs, h.be.trans (hb.mono h.be.size), Nat.lt_of_lt_of_le h.hn hb.size, Nat.lt_of_lt_of_le h.hm hb.size⟩
theorem K3.drew {w W : World} {n m : Nat} (h : K3 w W n m) : K3 w W.drew n m := ⟨h.hd, h.hs, h.be.drew, h.hn, h.hm⟩
theorem K3.cells {w W : World} {n m : Nat} (h : K3 w W n m) : (W.cell? ⟨n, 0, none⟩ = some (.int .u32 1) ∧ W.cell? ⟨n, 1, none⟩ = some (.int .u32 2) ∧ W.cell? ⟨n, 2, none⟩ = some (.int .u32 3) ∧ W.cell? ⟨n, 3, none⟩ = some (.int .u32 255)) ∧
    (W.cell? ⟨m, 0, none⟩ = some (.int .u32 1) ∧ W.cell? ⟨m, 1, none⟩ = some (.int .u32 2) ∧ W.cell? ⟨m, 2, none⟩ = some (.int .u32 3) ∧ W.cell? ⟨m, 3, none⟩ = some (.int .u32 4) ∧ W.cell? ⟨m, 4, none⟩ = some (.int .u32 5) ∧ W.cell? ⟨m, 5, none⟩ = some (.int .u32 6) ∧ W.cell? ⟨m, 6, none⟩ = some (.int .u32 7) ∧ W.cell? ⟨m, 7, none⟩ = some (.int .u32 8)) := by
  obtain ⟨a0, a1, a2, a3, _⟩ := cells4 h.hd
  obtain ⟨b0, b1, b2, b3, b4, b5, b6, b7, _⟩ := cells8 h.hs
  exact ⟨⟨a0, a1, a2, a3⟩, b0, b1, b2, b3, b4, b5, b6, b7⟩

set_option maxRecDepth 100000 in
set_option maxHeartbeats 1000000 in
theorem awake_any (w : World) (ht : Tabs w) :
    Calls Tryd.prog 4 #[] w fun e w' => e = .returned (.bool true) ∧ Below w.heap.size w w' := by
  have HT := Lib.hid ht
  clear ht
  go_enter Tryd.func4, Tryd.ntmps4
  go_wp2_with fail
  refine (parse_yes _ HT.out).mono ?_
  rintro e w1 ⟨rfl, b1⟩
  have HB1 := Lib.hid b1
  clear b1
  go_wp2_with fail
  refine (parse_no _ (HT.out.below (HB1.out.alloc HB1.out.size _))).mono ?_
  rintro e w2 ⟨rfl, b2⟩
  have l1 := b2.size
  rw [World.size_alloc] at l1
  have HK : Hid (K3 w ((w2.alloc (.cells #[.int .u32 0, .int .u32 0, .int .u32 0, .int .u32 0] 29)).alloc (.cells #[.int .u32 1, .int .u32 2, .int .u32 3, .int .u32 4, .int .u32 5, .int .u32 6, .int .u32 7, .int .u32 8] 26)).drew w1.heap.size (w2.heap.size + 1)) := by
    show K3 _ _ _ _
    have hb := HB1.out
    have hs := hb.size
    refine ⟨?_, ?_, ?_, by simp; omega, by simp⟩
    · rw [heap_drew, Below.heap_alloc _ _ _ (by simp; omega), Below.heap_alloc _ _ _ (by omega), b2.block _ (by simp), heap_alloc_new]
    · rw [heap_drew]
      have := heap_alloc_new (w2.alloc (.cells #[.int .u32 0, .int .u32 0, .int .u32 0, .int .u32 0] 29)) (.cells #[.int .u32 1, .int .u32 2, .int .u32 3, .int .u32 4, .int .u32 5, .int .u32 6, .int .u32 7, .int .u32 8] 26)
      simpa using this
    · exact (((hb.alloc hs _).trans (b2.mono (by simp; omega))).alloc (by omega) _ |>.alloc (by simp; omega) _).drew
  have l2 : w1.heap.size < w2.heap.size := by omega
  have hd2 : w2.heap[w1.heap.size]? = some (.cells #[.int .u32 1, .int .u32 2, .int .u32 3, .int .u32 255] 29 (0, 0)) := by rw [b2.block _ (by simp), heap_alloc_new]
  obtain ⟨a0, a1, a2, a3, _⟩ := cells4 hd2
  clear b2 l1 hd2
  have q4 := eq4
  have q8 := eq8
  go_wp2_with fail
  go_region_law (first
    | (go_simp; go_at_call 8; with_reducible refine (text_yes _ (HT.out.below HK.out.be)).mono ?_; rintro e w' ⟨rfl, hb⟩; replace HK := Lib.hid (HK.out.after hb); clear hb; obtain ⟨⟨a0, a1, a2, a3⟩, b0, b1, b2, b3, b4, b5, b6, b7⟩ := HK.out.cells)
    | (go_simp; go_at_call 10; with_reducible refine (mix_yes _ (HT.out.below HK.out.be)).mono ?_; rintro e w' ⟨rfl, hb⟩; replace HK := Lib.hid (HK.out.after hb); clear hb; obtain ⟨⟨a0, a1, a2, a3⟩, b0, b1, b2, b3, b4, b5, b6, b7⟩ := HK.out.cells)
    | (go_simp; go_at_call 9; with_reducible refine (unmix_yes _ (HT.out.below HK.out.be)).mono ?_; rintro e w' ⟨rfl, hb⟩; replace HK := Lib.hid (HK.out.after hb); clear hb; obtain ⟨⟨a0, a1, a2, a3⟩, b0, b1, b2, b3, b4, b5, b6, b7⟩ := HK.out.cells))
  all_goals
    go_wp2_with fail
    go_ret
    exact ⟨rfl, HK.out.be⟩
end Go.Proofs.YtflggcnojfmlmaaDoor
