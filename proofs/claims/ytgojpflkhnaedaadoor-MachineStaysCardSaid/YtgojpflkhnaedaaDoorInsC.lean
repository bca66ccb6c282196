/- The reference of layer 7: the contracts of Right whole, Encode, Decode. -/
import Derived.Test.YtgojpflkhnaedaaDoorInsB
import Derived.Test.YtgojpflkhnaedaaDoorG9b
set_option linter.unusedVariables false
namespace Go.Proofs.YtgojpflkhnaedaaDoor
open Go.RowKit

theorem pcl_not : ∀ k, k < 27 → ((⟨(pcl.getD k []).toArray⟩ : ByteArray).toList == [63]) = false := by decide +kernel
theorem prt_size (op : Int) : (⟨(prt op).toArray⟩ : ByteArray).size ≤ 3 := by
  have h : ∀ k, k < 27 → (pcl.getD k []).length ≤ 3 := by decide
  show (prt op).toArray.size ≤ 3
  rw [List.size_toArray]
  unfold prt
  split
  · exact h _ (by omega)
  · decide
theorem right_ref (op a b c : Int) (w : World) :
    Calls Tryd.prog 33 #[.agg #[.int .i64 op, .int .i64 a, .int .i64 b, .int .i64 c]] w fun e w' => e = .returned (.bool (rgt op a b c)) ∧ Below w.heap.size w w' := by
  by_cases h : 1 ≤ op ∧ op ≤ 27
  · have hp : prt op = pcl.getD (op.toNat - 1) [] := if_pos h
    have hs := prt_size op
    have hh := fun d n hn w => has_ref ⟨(prt op).toArray⟩ d n hn w (by omega)
    refine (right_gen (S := ⟨(prt op).toArray⟩) (A := wi (hsc (prt op) 97) a 15) (B := wi (hsc (prt op) 98) b 15) (C := wi (hsc (prt op) 99 || hsc (prt op) 114) c (mst op)) w (by rw [hp]; exact pcl_not _ (by omega)) (fun w => parts_ref op w) (fun w => hh 97 97 rfl w) (fun w => hh 98 98 rfl w) (fun w => hh 99 99 rfl w) (fun w => hh 114 114 rfl w) (fun w => within_ref _ _ _ w) (fun w => within_ref _ _ _ w) (fun w => within_ref _ _ _ w)).mono ?_
    rintro e w' ⟨rfl, hb⟩
    refine ⟨ret_bool ?_, hb⟩
    unfold rgt
    rw [decide_eq_true h, Bool.true_and]
  · exact right_out op a b c w h
theorem ins4_cells (w : World) (op a b c : Int) (t : TypeId) : (w.alloc (.cells #[.int .i64 op, .int .i64 a, .int .i64 b, .int .i64 c] t)).cell? ⟨w.heap.size, 0, none⟩ = some (.int .i64 op) ∧ (w.alloc (.cells #[.int .i64 op, .int .i64 a, .int .i64 b, .int .i64 c] t)).cell? ⟨w.heap.size, 1, none⟩ = some (.int .i64 a) ∧ (w.alloc (.cells #[.int .i64 op, .int .i64 a, .int .i64 b, .int .i64 c] t)).cell? ⟨w.heap.size, 2, none⟩ = some (.int .i64 b) ∧ (w.alloc (.cells #[.int .i64 op, .int .i64 a, .int .i64 b, .int .i64 c] t)).cell? ⟨w.heap.size, 3, none⟩ = some (.int .i64 c) := by simp
/-- What Encode gives. -/
def ecv (op a b c : Int) : Int := if rgt op a b c then enc op a b c else 0
def ece (op a b c : Int) : Int := if rgt op a b c then 0 else 1
set_option maxHeartbeats 2000000 in
theorem encode_ref (op a b c : Int) (w : World) :
    Calls Tryd.prog 19 #[.agg #[.int .i64 op, .int .i64 a, .int .i64 b, .int .i64 c]] w fun e w' => e = .returned (.tuple #[.int .u32 (ecv op a b c), .int .i64 (ece op a b c)]) ∧ Below w.heap.size w w' := by
  have c1 := fun w => right_ref op a b c w
  have hb0 := (Below.refl w.heap.size w).alloc (Nat.le_refl _) (.cells #[.int .i64 op, .int .i64 a, .int .i64 b, .int .i64 c] 40)
  obtain ⟨q0, q1, q2, q3⟩ := ins4_cells w op a b c 40
  cases hr : rgt op a b c with
  | false =>
    rw [show ecv op a b c = 0 from by unfold ecv; rw [hr]; rfl, show ece op a b c = 1 from by unfold ece; rw [hr]; rfl]
    rw [hr] at c1
    have C1 := Lib.hid c1
    have HB := Lib.hid hb0
    clear c1 hr hb0
    go_enter Tryd.func19, Tryd.ntmps19
    go_wp2_with fail
    refine (C1.out _).mono ?_
    rintro e w1 ⟨rfl, hb⟩
    have HB2 := Lib.hid (HB.out.trans (hb.mono (by simp)))
    clear hb
    go_wp2_with fail
    go_ret2
    exact ⟨rfl, HB2.out⟩
  | true =>
    rw [show ecv op a b c = enc op a b c from by unfold ecv; rw [hr]; rfl, show ece op a b c = 0 from by unfold ece; rw [hr]; rfl]
    have hbd := rgt_bounds hr
    have hen := enc_bounds hr
    rw [hr] at c1
    have C1 := Lib.hid c1
    have HB := Lib.hid hb0
    have HE := Lib.hid (show enc op a b c = op * 16777216 + a * 1048576 + b * 65536 + c from rfl)
    obtain ⟨⟨g0, g1⟩, ⟨g2, g3⟩, ⟨g4, g5⟩, g6, g7⟩ := hbd
    clear c1 hr hb0
    go_enter Tryd.func19, Tryd.ntmps19
    go_wp2_with fail
    refine (C1.out _).mono ?_
    rintro e w1 ⟨rfl, hb⟩
    have HB2 := Lib.hid (HB.out.trans (hb.mono (by simp)))
    have p0 : w1.cell? ⟨w.heap.size, 0, none⟩ = some (.int .i64 op) := (hb.cell (by simp)).trans q0
    have p1 : w1.cell? ⟨w.heap.size, 1, none⟩ = some (.int .i64 a) := (hb.cell (by simp)).trans q1
    have p2 : w1.cell? ⟨w.heap.size, 2, none⟩ = some (.int .i64 b) := (hb.cell (by simp)).trans q2
    have p3 : w1.cell? ⟨w.heap.size, 3, none⟩ = some (.int .i64 c) := (hb.cell (by simp)).trans q3
    clear hb q0 q1 q2 q3
    go_wp2_with fail
    go_ret2
    exact ⟨ret2_eq (by rw [HE.out]) rfl, HB2.out⟩
/-- What Decode gives: an instruction that may be, or noughts. -/
def dcd (v : Int) : Array Value := if rgt (v / 16777216) (v / 1048576 % 16) (v / 65536 % 16) (v % 65536) then #[.int .i64 (v / 16777216), .int .i64 (v / 1048576 % 16), .int .i64 (v / 65536 % 16), .int .i64 (v % 65536)] else #[.int .i64 0, .int .i64 0, .int .i64 0, .int .i64 0]
def dce (v : Int) : Int := if rgt (v / 16777216) (v / 1048576 % 16) (v / 65536 % 16) (v % 65536) then 0 else 7
set_option maxHeartbeats 2000000 in
theorem decode_ref (v : Int) (w : World) (h0 : 0 ≤ v) (h1 : v < 4294967296) :
    Calls Tryd.prog 18 #[.int .u32 v] w fun e w' => e = .returned (.tuple #[.agg (dcd v), .int .i64 (dce v)]) ∧ Below w.heap.size w w' := by
  obtain ⟨o, ho⟩ : ∃ o, v / 16777216 = o := ⟨_, rfl⟩
  obtain ⟨a, ha⟩ : ∃ a, v / 1048576 % 16 = a := ⟨_, rfl⟩
  obtain ⟨b, hb⟩ : ∃ b, v / 65536 % 16 = b := ⟨_, rfl⟩
  obtain ⟨c, hc⟩ : ∃ c, v % 65536 = c := ⟨_, rfl⟩
  have c1 := fun w => right_ref o a b c w
  unfold dcd dce
  rw [ho, ha, hb, hc]
  have hk := ((Kx.nil none w).more (.cells #[.int .i64 0, .int .i64 0, .int .i64 0, .int .i64 0] 40 (0, 0))).add (w.heap.size + 1) (by simp) (.cells #[.int .i64 o, .int .i64 a, .int .i64 b, .int .i64 c] 40 (0, 0))
  have r0 : 0 ≤ o ∧ o < 256 := by omega
  have r1 : 0 ≤ a ∧ a < 16 := by omega
  have r2 : 0 ≤ b ∧ b < 16 := by omega
  have r3 : 0 ≤ c ∧ c < 65536 := by omega
  obtain ⟨m0, m1⟩ := r0
  obtain ⟨m2, m3⟩ := r1
  obtain ⟨m4, m5⟩ := r2
  obtain ⟨m6, m7⟩ := r3
  cases hr : rgt o a b c with
  | false =>
    rw [hr] at c1
    have C1 := Lib.hid c1
    have HK := Lib.hid hk
    simp only [Bool.false_eq_true, if_false]
    clear c1 hr hk
    go_enter Tryd.func18, Tryd.ntmps18
    go_wp2_with fail
    refine (C1.out _).mono ?_
    rintro e w1 ⟨rfl, hb⟩
    replace HK := Lib.hid (HK.out.after hb)
    clear hb
    obtain ⟨a0, a1, a2, a3, d0, d1, d2, d3⟩ := cells4 (HK.out.at 0 rfl)
    have HE := Lib.hid (HK.out.put4 0 rfl (.inr (Nat.le_refl _)) (.int .i64 0) (.int .i64 0) (.int .i64 0) (.int .i64 0))
    go_wp2_with fail
    exact bodyPost_ret (v := .tuple #[.agg #[.int .i64 0, .int .i64 0, .int .i64 0, .int .i64 0], .int .i64 7]) (by
      obtain ⟨k0, k1, k2, k3, _⟩ := cells4 (HE.out.at 0 rfl)
      simp [results, go_sem, k0, k1, k2, k3]) rfl ⟨rfl, HE.out.be.plain⟩
  | true =>
    rw [hr] at c1
    have C1 := Lib.hid c1
    have HK := Lib.hid hk
    simp only [if_true]
    clear c1 hr hk
    go_enter Tryd.func18, Tryd.ntmps18
    go_wp2_with fail
    refine (C1.out _).mono ?_
    rintro e w1 ⟨rfl, hb⟩
    replace HK := Lib.hid (HK.out.after hb)
    clear hb
    obtain ⟨a0, a1, a2, a3, d0, d1, d2, d3⟩ := cells4 (HK.out.at 0 rfl)
    obtain ⟨b0, b1, b2, b3, _⟩ := cells4 (HK.out.at 1 rfl)
    have HE := Lib.hid (HK.out.put4 0 rfl (.inr (Nat.le_refl _)) (.int .i64 o) (.int .i64 a) (.int .i64 b) (.int .i64 c))
    go_wp2_with fail
    exact bodyPost_ret (v := .tuple #[.agg #[.int .i64 o, .int .i64 a, .int .i64 b, .int .i64 c], .int .i64 0]) (by
      obtain ⟨k0, k1, k2, k3, _⟩ := cells4 (HE.out.at 0 rfl)
      simp [results, go_sem, k0, k1, k2, k3]) rfl ⟨rfl, HE.out.be.plain⟩
end Go.Proofs.YtgojpflkhnaedaaDoor
