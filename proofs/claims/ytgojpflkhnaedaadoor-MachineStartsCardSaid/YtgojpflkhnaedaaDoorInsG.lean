/- Layer 7's own code: the table's cells; upTo, Name, Op, Right. -/
import Derived.Test.YtgojpflkhnaedaaDoorRet
import Derived.Test.YtgojpflkhnaedaaDoorInsM
import Derived.Test.YtgojpflkhnaedaaDoorTab
import Derived.Test.YtgojpflkhnaedaaDoorInsE
import Derived.Laws.IdiomStrings
set_option linter.unusedVariables false
namespace Go.Proofs.YtgojpflkhnaedaaDoor
open Go.RowKit

theorem new_below (w : World) (o : Obj) : Below w.heap.size w (w.alloc o) := (Below.refl _ _).alloc (Nat.le_refl _) o
theorem Tabs.opr_cells {w : World} (h : Tabs w) (k : Nat) (hk : k < 28) : w.cell? ⟨0, k * 4, none⟩ = some (.string ⟨(nam (k : Int)).toArray⟩) ∧ w.cell? ⟨0, k * 4 + 1, none⟩ = some (.int .i64 (mxa k)) ∧ w.cell? ⟨0, k * 4 + 2, none⟩ = some (.int .i64 (mxb k)) ∧ w.cell? ⟨0, k * 4 + 3, none⟩ = some (.int .i64 (mxc k)) := by
  have hc := World.var?_cell gOpr h.opr
  rw [Nat.mul_comm k 4]
  refine ⟨(hc _).trans (oprs_at k 0 hk (by omega)), (hc _).trans (oprs_at k 1 hk (by omega)), (hc _).trans (oprs_at k 2 hk (by omega)), (hc _).trans (oprs_at k 3 hk (by omega))⟩

theorem upTo_code (v g : Int) (w : World) :
    Calls Tryd.prog 48 #[.int .i64 v, .int .i64 g] w fun e w' => e = .returned (.bool (decide (0 ≤ v) && decide (v ≤ g))) ∧ w' = w := by
  by_cases h0 : 0 ≤ v
  · by_cases h1 : v ≤ g
    · have d1 : decide (v ≤ g) = true := decide_eq_true h1
      rw [decide_eq_true h0, d1]
      go_enter Tryd.func48, Tryd.ntmps48
      go_wp2
      go_ret
      exact ⟨rfl, rfl⟩
    · have d1 : decide (v ≤ g) = false := decide_eq_false h1
      rw [decide_eq_true h0, d1]
      go_enter Tryd.func48, Tryd.ntmps48
      go_wp2
      go_ret
      exact ⟨rfl, rfl⟩
  · have d0 : decide (0 ≤ v) = false := decide_eq_false h0
    rw [d0, Bool.false_and]
    go_enter Tryd.func48, Tryd.ntmps48
    go_wp2
    go_ret
    exact ⟨rfl, rfl⟩

theorem name_code (op : Int) (w : World) (ht : Tabs w) :
    Calls Tryd.prog 47 #[.int .i64 op] w fun e w' => e = .returned (.string ⟨(nam op).toArray⟩) ∧ w' = w := by
  by_cases h0 : 0 ≤ op
  · by_cases h1 : op ≤ 27
    · obtain ⟨k, rfl⟩ : ∃ k : Nat, op = (k : Int) := ⟨op.toNat, by omega⟩
      obtain ⟨c0, _⟩ := ht.opr_cells k (by omega)
      obtain ⟨NM, hNM⟩ : ∃ S : ByteArray, ⟨(nam (k : Int)).toArray⟩ = S := ⟨_, rfl⟩
      rw [hNM] at c0 ⊢
      have hk : k < 28 := by omega
      clear hNM
      go_enter Tryd.func47, Tryd.ntmps47
      go_wp2
      go_ret
      exact ⟨rfl, rfl⟩
    · have hn : nam op = [] := nam_out (by omega)
      rw [hn]
      have d1 : decide (28 ≤ op) = true := decide_eq_true (by omega)
      go_enter Tryd.func47, Tryd.ntmps47
      go_wp2
      go_ret
      exact ⟨rfl, rfl⟩
  · have hn : nam op = [] := nam_out (by omega)
    rw [hn]
    go_enter Tryd.func47, Tryd.ntmps47
    go_wp2
    go_ret
    exact ⟨rfl, rfl⟩


theorem rgt_in {op a b c : Int} (h : 1 ≤ op ∧ op ≤ 27) : rgt op a b c = ((decide (0 ≤ a) && decide (a ≤ mxa op)) && (decide (0 ≤ b) && decide (b ≤ mxb op)) && (decide (0 ≤ c) && decide (c ≤ mxc op))) := by
  unfold rgt
  rw [decide_eq_true h, Bool.true_and, wi_upto, wi_upto, wi_upto]
  rfl
set_option maxHeartbeats 1000000 in
theorem right_code (op a b c : Int) (w : World) (ht : Tabs w) :
    Calls Tryd.prog 34 #[.agg #[.int .i64 op, .int .i64 a, .int .i64 b, .int .i64 c]] w fun e w' => e = .returned (.bool (rgt op a b c)) ∧ Below w.heap.size w w' := by
  have HT := Lib.hid (fun o => ht.below (new_below w o))
  have c1 := fun w ht => name_code op w ht
  by_cases h : 1 ≤ op ∧ op ≤ 27
  · obtain ⟨NM, hNM⟩ : ∃ S : ByteArray, ⟨(nam op).toArray⟩ = S := ⟨_, rfl⟩
    have e1 : NM.toList.isEmpty = false := by
      rw [← hNM, ByteArray.toList_eq, List.isEmpty_eq_false_iff]; exact nam_some h
    rw [rgt_in h]
    obtain ⟨k, rfl⟩ : ∃ k : Nat, op = (k : Int) := ⟨op.toNat, by omega⟩
    obtain ⟨k0, k1, k2, k3⟩ := (ht.below (new_below w (.cells #[.int .i64 k, .int .i64 a, .int .i64 b, .int .i64 c] 40 (0, 0)))).opr_cells k (by omega)
    rw [hNM] at c1 k0
    have C1 := Lib.hid c1
    obtain ⟨ma, hma⟩ : ∃ m, mxa (k : Int) = m := ⟨_, rfl⟩
    obtain ⟨mb, hmb⟩ : ∃ m, mxb (k : Int) = m := ⟨_, rfl⟩
    obtain ⟨mc, hmc⟩ : ∃ m, mxc (k : Int) = m := ⟨_, rfl⟩
    rw [hma] at k1 ⊢
    rw [hmb] at k2 ⊢
    rw [hmc] at k3 ⊢
    have u1 := fun w => upTo_code a ma w
    have u2 := fun w => upTo_code b mb w
    have u3 := fun w => upTo_code c mc w
    obtain ⟨x1, hx1⟩ : ∃ x, (decide (0 ≤ a) && decide (a ≤ ma)) = x := ⟨_, rfl⟩
    obtain ⟨x2, hx2⟩ : ∃ x, (decide (0 ≤ b) && decide (b ≤ mb)) = x := ⟨_, rfl⟩
    obtain ⟨x3, hx3⟩ : ∃ x, (decide (0 ≤ c) && decide (c ≤ mc)) = x := ⟨_, rfl⟩
    rw [hx1] at u1 ⊢
    rw [hx2] at u2 ⊢
    rw [hx3] at u3 ⊢
    have U1 := Lib.hid u1
    have U2 := Lib.hid u2
    have U3 := Lib.hid u3
    clear c1 u1 u2 u3 hx1 hx2 hx3 hma hmb hmc hNM ht
    cases x1 <;> cases x2 <;> cases x3
    all_goals
      go_enter Tryd.func34, Tryd.ntmps34
      go_wp2_with fail
      refine (C1.out _ (HT.out _)).mono ?_
      rintro e w1 ⟨rfl, rfl⟩
      go_wp2_with fail
      repeat (
        first
          | with_reducible refine (U1.out _).mono ?_
          | with_reducible refine (U2.out _).mono ?_
          | with_reducible refine (U3.out _).mono ?_
        rintro e w1 ⟨rfl, rfl⟩
        go_wp2_with fail)
      go_ret
      exact ⟨rfl, (new_below w _).alloc (by simp) _⟩
  · have hn : nam op = [] := nam_out h
    rw [hn] at c1
    rw [rgt_out h]
    have C1 := Lib.hid c1
    clear c1 ht
    go_enter Tryd.func34, Tryd.ntmps34
    go_wp2_with fail
    refine (C1.out _ (HT.out _)).mono ?_
    rintro e w1 ⟨rfl, rfl⟩
    go_wp2_with fail
    go_ret
    exact ⟨rfl, new_below w _⟩
end Go.Proofs.YtgojpflkhnaedaaDoor
