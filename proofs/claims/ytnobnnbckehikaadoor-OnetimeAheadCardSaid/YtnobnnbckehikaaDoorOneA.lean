/- A chain's beginning, steps along it: the contracts of onetime's beginning, walk and its closure, and of the reference's Begin and Walk. -/
import Derived.Test.YtnobnnbckehikaaDoorOneM
import Derived.Test.YtnobnnbckehikaaDoorOwnE
import Derived.Test.YtnobnnbckehikaaDoorDigQ
set_option linter.unusedVariables false
namespace Go.Proofs.YtnobnnbckehikaaDoor
open Go.RowKit

set_option maxRecDepth 100000 in
set_option maxHeartbeats 1000000 in
theorem beginning_code (seed : Ws) (i : Nat) (w : World) (hs : Ok4 seed) (hi : i < 35) (ht : Tabs w) :
    Calls Tryd.prog 29 #[ag seed, .int .i64 (i : Int)] w fun e w' => e = .returned (ag (bgn seed i)) ∧ Below w.heap.size w w' := by
  have o := bgn_ok hs (i := i) (by omega)
  have c := fun w ht => pair_code seed [(i : Int), 0, 0, 0] w hs (num_ok (by omega)) ht
  unfold bgn at o ⊢
  obtain ⟨z0, z1, z2, z3, e, _⟩ := ok4 o
  rw [e] at c ⊢
  obtain ⟨x0, x1, x2, x3, rfl, _⟩ := ok4 hs
  rw [ag4, ag4, ag4] at c
  rw [ag4, ag4]
  have C := Lib.hid c
  have HT := Lib.hid ht
  have HK := Lib.hid (((Kx.nil none w).more (.cells #[.int .u32 x0, .int .u32 x1, .int .u32 x2, .int .u32 x3] 24 (0, 0))).add (w.heap.size + 1) (by simp) (.cells #[.int .u32 0, .int .u32 0, .int .u32 0, .int .u32 0] 24 (0, 0)))
  have i0 : (0 : Int) ≤ (i : Int) := by omega
  have i1 : (i : Int) < 4294967296 := by omega
  clear c ht e o hs
  go_enter Tryd.func29, Tryd.ntmps29
  go_wp2_with fail
  refine (C.out _ (HT.out.oldn HK.out)).mono ?_
  rintro e w1 ⟨rfl, hb⟩
  replace HK := Lib.hid (HK.out.after hb)
  clear hb
  obtain ⟨a0, a1, a2, a3, d0, d1, d2, d3⟩ := cells4 (HK.out.at 1 rfl)
  have HR := Lib.hid (row4 (HK.out.at 1 rfl) (.int .u32 z0) (.int .u32 z1) (.int .u32 z2) (.int .u32 z3))
  have HE := Lib.hid (HK.out.put4 1 rfl (.inr (by simp)) (.int .u32 z0) (.int .u32 z1) (.int .u32 z2) (.int .u32 z3)).be.plain
  go_wp2_with fail
  exact bodyPost_ret (v := .agg #[.int .u32 z0, .int .u32 z1, .int .u32 z2, .int .u32 z3]) (by
    obtain ⟨k0, k1, k2, k3, _⟩ := cells4 HR.out
    simp [results, go_sem, k0, k1, k2, k3]) rfl ⟨rfl, HE.out⟩
set_option maxHeartbeats 1000000 in
theorem walk_made (x0 x1 x2 x3 : Int) (w : World) :
    Calls Tryd.prog 28 #[.agg #[.int .u32 x0, .int .u32 x1, .int .u32 x2, .int .u32 x3]] w fun e w' => e = .returned (.func (.func 35) #[] #[.pointer (some ⟨w.heap.size, 0, none⟩)]) ∧ w' = w.alloc (.cells #[.int .u32 x0, .int .u32 x1, .int .u32 x2, .int .u32 x3] 24) := by
  have hmf : ∀ (fn : Fn) (first cap : Array Value) (w : World), (Instr.makeFunc fn first cap).run Tryd.prog w = .ok (.func fn first cap) w := fun _ _ _ _ => rfl
  go_enter Tryd.func28, Tryd.ntmps28
  go_wp2_with fail
  go_ret
  exact ⟨rfl, rfl⟩
theorem mrk4 {w : World} (h : Tabs w) : w.cell? ⟨0, 0, none⟩ = some (.int .u32 0) ∧ w.cell? ⟨0, 1, none⟩ = some (.int .u32 0) ∧ w.cell? ⟨0, 2, none⟩ = some (.int .u32 0) ∧ w.cell? ⟨0, 3, none⟩ = some (.int .u32 1) :=
  ⟨h.mrk_cell 0, h.mrk_cell 1, h.mrk_cell 2, h.mrk_cell 3⟩
/-- Two blocks that are known, one of them the closure's. -/
def Kq2 (q : Nat) (w W : World) (y : Ws) : Prop := Kx (some q) w W [(q, .cells (y.map (Value.int .u32)).toArray 24 (0, 0)), (w.heap.size, .cells #[.int .u32 0, .int .u32 0, .int .u32 0, .int .u32 0] 24 (0, 0))]
set_option maxRecDepth 100000 in
set_option maxHeartbeats 2000000 in
theorem step_code (x : Ws) (n q : Nat) (w : World) (hx : Ok4 x) (hn : n ≤ 15) (hq : w.heap[q]? = some (.cells (x.map (Value.int .u32)).toArray 24 (0, 0))) (hB : TabsB q w) :
    Calls Tryd.prog 35 #[.int .i64 (n : Int), .pointer (some ⟨q, 0, none⟩)] w fun e w' => e = .returned (ag (wk n x)) ∧ Bx (some q) w w' := by
  have hlt : q < w.heap.size := (Array.getElem?_eq_some_iff.1 hq).1
  have hne : w.heap.size ≠ q := by omega
  have HX := Lib.hid hx
  have HB := Lib.hid hB
  have HK0 : Hid (Kq2 q w (w.alloc (.cells #[.int .u32 0, .int .u32 0, .int .u32 0, .int .u32 0] 24)) x) := Lib.hid ((Kx.one hq (some q)).more (.cells #[.int .u32 0, .int .u32 0, .int .u32 0, .int .u32 0] 24 (0, 0)))
  have HTB : Hid (∀ W y, Kq2 q w W y → Tabs W) := Lib.hid fun W y h => (TabsB.below HB.out (h.be.to (by omega) (fun k hk => by injection hk with hk; omega))).toTabs
  obtain ⟨f, hf⟩ : ∃ f, ag (wk n x) = f := ⟨_, rfl⟩
  rw [hf]
  have HF := Lib.hid hf
  clear hx hq hB hf
  go_enter Tryd.func35, Tryd.ntmps35
  go_wp2_with fail
  go_loopw [5] (fun v wr => ∃ (j : Nat) (y0 y1 y2 y3 : Int), j ≤ n ∧ v = .int .i64 (j : Int) ∧ Hid (wk j x = [y0, y1, y2, y3]) ∧ Hid (Kq2 q w wr [y0, y1, y2, y3])) (fun v _ => n - (intOf v).toNat)
  case atStart =>
    obtain ⟨x0, x1, x2, x3, e, _⟩ := ok4 HX.out
    exact ⟨0, x0, x1, x2, x3, Nat.zero_le _, rfl, e, by rw [← e]; exact HK0.out⟩
  case round =>
    obtain ⟨j, y0, y1, y2, y3, hj, rfl, HY, HK⟩ := hrel
    by_cases hlt : j < n
    · have i0 : (0 : Int) ≤ (j : Int) := by omega
      have i1 : (j : Int) < (n : Int) := by omega
      have oy := wk_ok HX.out j
      have oz := wk_ok HX.out (j + 1)
      have e : wk (j + 1) x = pair (wk j x) [0, 0, 0, 1] := rfl
      obtain ⟨z0, z1, z2, z3, ez, _⟩ := ok4 oz
      have HZ : Hid (wk (j + 1) x = [z0, z1, z2, z3]) := Lib.hid ez
      rw [HY.out] at oy e
      have c := fun w ht => pair_code [y0, y1, y2, y3] [0, 0, 0, 1] w oy mark_ok ht
      rw [← e, ez, ag4, ag4, ag4] at c
      have C := Lib.hid c
      clear c e ez oy oz
      obtain ⟨a0, a1, a2, a3, _⟩ := cells4 (HK.out.at 0 rfl)
      obtain ⟨m0, m1, m2, m3⟩ := mrk4 (HTB.out _ _ HK.out)
      go_wp2_with fail
      refine (C.out _ (HTB.out _ _ HK.out)).mono ?_
      rintro e w1 ⟨rfl, hb⟩
      replace HK : Hid (Kq2 q w w1 [y0, y1, y2, y3]) := Lib.hid (HK.out.after hb)
      clear hb a0 a1 a2 a3 m0 m1 m2 m3
      obtain ⟨a0, a1, a2, a3, d0, d1, d2, d3⟩ := cells4 (HK.out.at 0 rfl)
      have HK2 : Hid (Kq2 q w ((((w1.setCell ⟨q, 0, none⟩ (.int .u32 z0)).setCell ⟨q, 1, none⟩ (.int .u32 z1)).setCell ⟨q, 2, none⟩ (.int .u32 z2)).setCell ⟨q, 3, none⟩ (.int .u32 z3)) [z0, z1, z2, z3]) := Lib.hid (HK.out.put4 0 rfl (.inl rfl) (.int .u32 z0) (.int .u32 z1) (.int .u32 z2) (.int .u32 z3))
      go_wp2_with fail
      go_roundw
      case rel => exact ⟨j + 1, z0, z1, z2, z3, by omega, by go_num, HZ, HK2⟩
      case measure => simp [intOf]; omega
    · obtain rfl : j = n := by omega
      obtain ⟨a0, a1, a2, a3, _⟩ := cells4 (HK.out.at 0 rfl)
      obtain ⟨b0, b1, b2, b3, d0, d1, d2, d3⟩ := cells4 (HK.out.at 1 rfl)
      have HR := Lib.hid (row4 (HK.out.at 1 rfl) (.int .u32 y0) (.int .u32 y1) (.int .u32 y2) (.int .u32 y3))
      have HE := Lib.hid (HK.out.put4 1 rfl (.inr (by simp)) (.int .u32 y0) (.int .u32 y1) (.int .u32 y2) (.int .u32 y3)).be
      have HF2 : Hid (f = .agg #[.int .u32 y0, .int .u32 y1, .int .u32 y2, .int .u32 y3]) := Lib.hid (by rw [← HF.out, HY.out, ag4])
      go_wp2_with fail
      exact bodyPost_ret (v := .agg #[.int .u32 y0, .int .u32 y1, .int .u32 y2, .int .u32 y3]) (by
        obtain ⟨k0, k1, k2, k3, _⟩ := cells4 HR.out
        simp [results, go_sem, k0, k1, k2, k3]) rfl ⟨by rw [HF2.out], HE.out⟩
set_option maxRecDepth 100000 in
set_option maxHeartbeats 1000000 in
theorem begin_ref (seed : Ws) (i : Nat) (w : World) (hs : Ok4 seed) (hi : i < 35) :
    Calls Tryd.prog 31 #[ag seed, .int .i64 (i : Int)] w fun e w' => e = .returned (ag (bgn seed i)) ∧ Below w.heap.size w w' := by
  have o := bgn_ok hs (i := i) (by omega)
  have c := fun w => pair_ref seed [(i : Int), 0, 0, 0] w hs (num_ok (by omega))
  unfold bgn at o ⊢
  obtain ⟨z0, z1, z2, z3, e, _⟩ := ok4 o
  rw [e] at c ⊢
  obtain ⟨x0, x1, x2, x3, rfl, _⟩ := ok4 hs
  rw [ag4, ag4, ag4] at c
  rw [ag4, ag4]
  have C := Lib.hid c
  have HK := Lib.hid (((Kx.nil none w).more (.cells #[.int .u32 x0, .int .u32 x1, .int .u32 x2, .int .u32 x3] 24 (0, 0))).add (w.heap.size + 1) (by simp) (.cells #[.int .u32 0, .int .u32 0, .int .u32 0, .int .u32 0] 24 (0, 0)))
  have i0 : (0 : Int) ≤ (i : Int) := by omega
  have i1 : (i : Int) < 4294967296 := by omega
  clear c e o hs
  go_enter Tryd.func31, Tryd.ntmps31
  go_wp2_with fail
  refine (C.out _).mono ?_
  rintro e w1 ⟨rfl, hb⟩
  replace HK := Lib.hid (HK.out.after hb)
  clear hb
  obtain ⟨a0, a1, a2, a3, d0, d1, d2, d3⟩ := cells4 (HK.out.at 1 rfl)
  have HR := Lib.hid (row4 (HK.out.at 1 rfl) (.int .u32 z0) (.int .u32 z1) (.int .u32 z2) (.int .u32 z3))
  have HE := Lib.hid (HK.out.put4 1 rfl (.inr (by simp)) (.int .u32 z0) (.int .u32 z1) (.int .u32 z2) (.int .u32 z3)).be.plain
  go_wp2_with fail
  exact bodyPost_ret (v := .agg #[.int .u32 z0, .int .u32 z1, .int .u32 z2, .int .u32 z3]) (by
    obtain ⟨k0, k1, k2, k3, _⟩ := cells4 HR.out
    simp [results, go_sem, k0, k1, k2, k3]) rfl ⟨rfl, HE.out⟩
/-- Two new blocks that are known. -/
def Kn2 (w W : World) (y : Ws) : Prop := Kx none w W [(w.heap.size, .cells (y.map (Value.int .u32)).toArray 24 (0, 0)), (w.heap.size + 1, .cells #[.int .u32 0, .int .u32 0, .int .u32 0, .int .u32 0] 24 (0, 0))]
set_option maxRecDepth 100000 in
set_option maxHeartbeats 2000000 in
theorem walk_ref (x : Ws) (n : Nat) (w : World) (hx : Ok4 x) (hn : n ≤ 15) :
    Calls Tryd.prog 24 #[ag x, .int .i64 (n : Int)] w fun e w' => e = .returned (ag (wk n x)) ∧ Below w.heap.size w w' := by
  have HX := Lib.hid hx
  obtain ⟨f, hf⟩ : ∃ f, ag (wk n x) = f := ⟨_, rfl⟩
  rw [hf]
  have HF := Lib.hid hf
  obtain ⟨x0, x1, x2, x3, e, _⟩ := ok4 hx
  have HE := Lib.hid e
  rw [e, ag4]
  have HK0 : Hid (Kn2 w ((w.alloc (.cells #[.int .u32 x0, .int .u32 x1, .int .u32 x2, .int .u32 x3] 24)).alloc (.cells #[.int .u32 0, .int .u32 0, .int .u32 0, .int .u32 0] 24)) [x0, x1, x2, x3]) := Lib.hid (((Kx.nil none w).more (.cells #[.int .u32 x0, .int .u32 x1, .int .u32 x2, .int .u32 x3] 24 (0, 0))).add (w.heap.size + 1) (by simp) (.cells #[.int .u32 0, .int .u32 0, .int .u32 0, .int .u32 0] 24 (0, 0)))
  clear hx hf e
  go_enter Tryd.func24, Tryd.ntmps24
  go_wp2_with fail
  go_loopw [5] (fun v wr => ∃ (j : Nat) (y0 y1 y2 y3 : Int), j ≤ n ∧ v = .int .i64 (j : Int) ∧ Hid (wk j x = [y0, y1, y2, y3]) ∧ Hid (Kn2 w wr [y0, y1, y2, y3])) (fun v _ => n - (intOf v).toNat)
  case atStart => exact ⟨0, x0, x1, x2, x3, Nat.zero_le _, rfl, HE, HK0⟩
  case round =>
    obtain ⟨j, y0, y1, y2, y3, hj, rfl, HY, HK⟩ := hrel
    by_cases hlt : j < n
    · have i0 : (0 : Int) ≤ (j : Int) := by omega
      have i1 : (j : Int) < (n : Int) := by omega
      have oy := wk_ok HX.out j
      have oz := wk_ok HX.out (j + 1)
      have e : wk (j + 1) x = pair (wk j x) [0, 0, 0, 1] := rfl
      obtain ⟨z0, z1, z2, z3, ez, _⟩ := ok4 oz
      have HZ : Hid (wk (j + 1) x = [z0, z1, z2, z3]) := Lib.hid ez
      rw [HY.out] at oy e
      have c := fun w => pair_ref [y0, y1, y2, y3] [0, 0, 0, 1] w oy mark_ok
      rw [← e, ez, ag4, ag4, ag4] at c
      have C := Lib.hid c
      clear c e ez oy oz
      obtain ⟨a0, a1, a2, a3, _⟩ := cells4 (HK.out.at 0 rfl)
      go_wp2_with fail
      refine (C.out _).mono ?_
      rintro e w1 ⟨rfl, hb⟩
      replace HK : Hid (Kn2 w w1 [y0, y1, y2, y3]) := Lib.hid (HK.out.after hb)
      clear hb a0 a1 a2 a3
      obtain ⟨a0, a1, a2, a3, d0, d1, d2, d3⟩ := cells4 (HK.out.at 0 rfl)
      have HK2 : Hid (Kn2 w ((((w1.setCell ⟨w.heap.size, 0, none⟩ (.int .u32 z0)).setCell ⟨w.heap.size, 1, none⟩ (.int .u32 z1)).setCell ⟨w.heap.size, 2, none⟩ (.int .u32 z2)).setCell ⟨w.heap.size, 3, none⟩ (.int .u32 z3)) [z0, z1, z2, z3]) := Lib.hid (HK.out.put4 0 rfl (.inr (Nat.le_refl _)) (.int .u32 z0) (.int .u32 z1) (.int .u32 z2) (.int .u32 z3))
      go_wp2_with fail
      go_roundw
      case rel => exact ⟨j + 1, z0, z1, z2, z3, by omega, by go_num, HZ, HK2⟩
      case measure => simp [intOf]; omega
    · obtain rfl : j = n := by omega
      obtain ⟨a0, a1, a2, a3, _⟩ := cells4 (HK.out.at 0 rfl)
      obtain ⟨b0, b1, b2, b3, d0, d1, d2, d3⟩ := cells4 (HK.out.at 1 rfl)
      have HR := Lib.hid (row4 (HK.out.at 1 rfl) (.int .u32 y0) (.int .u32 y1) (.int .u32 y2) (.int .u32 y3))
      have HE := Lib.hid (HK.out.put4 1 rfl (.inr (by simp)) (.int .u32 y0) (.int .u32 y1) (.int .u32 y2) (.int .u32 y3)).be.plain
      have HF2 : Hid (f = .agg #[.int .u32 y0, .int .u32 y1, .int .u32 y2, .int .u32 y3]) := Lib.hid (by rw [← HF.out, HY.out, ag4])
      go_wp2_with fail
      exact bodyPost_ret (v := .agg #[.int .u32 y0, .int .u32 y1, .int .u32 y2, .int .u32 y3]) (by
        obtain ⟨k0, k1, k2, k3, _⟩ := cells4 HR.out
        simp [results, go_sem, k0, k1, k2, k3]) rfl ⟨by rw [HF2.out], HE.out⟩
end Go.Proofs.YtnobnnbckehikaaDoor
