/- Whether two lists of digests are the same: slices.Equal and the reference's Same: the contracts. -/
import Derived.Test.YtcjclbhkheogpaaDoorMerL
import Derived.Deep.QuietTactic
import Derived.BigQuiet
set_option linter.unusedVariables false
namespace Go.Proofs.YtcjclbhkheogpaaDoor
open Go.RowKit

/-- Whether two lists of digests are the same. -/
def sameL (l m : Dl) : Bool := decide (l = m)
theorem sameL_yes (l : Dl) : sameL l l = true := by simp [sameL]
theorem sameL_no {l m : Dl} (h : ¬ l = m) : sameL l m = false := by simp [sameL, h]
set_option maxRecDepth 100000 in
set_option maxHeartbeats 4000000 in
theorem samer_row (b1 o1 c1 b2 o2 c2 n : Nat) (l k : Dl) (w : World) (hl : l.length = n) (hk : k.length = n) (h1 : 1 ≤ n) (hn : n ≤ 1024) (r1 : DRow w b1 o1 l) (r2 : DRow w b2 o2 k) :
    Calls Tryd.prog 8 #[.slice (some ⟨b1, o1, none⟩) n c1, .slice (some ⟨b2, o2, none⟩) n c2] w fun e w' => e = .returned (.bool (sameL l k)) ∧ Below w.heap.size w w' := by
  have q4 := eq4s
  have s0 := same_self
  have HR1 := Lib.hid r1
  have HR2 := Lib.hid r2
  have HL := Lib.hid hl
  have HKK := Lib.hid hk
  obtain ⟨bb, hbb⟩ : ∃ bb, sameL l k = bb := ⟨_, rfl⟩
  rw [hbb]
  have HB := Lib.hid hbb
  clear hbb r1 r2 hl hk
  go_enter Tryd.func8, Tryd.ntmps8
  go_wp2_with fail
  go_loopw [5] (fun v wr => ∃ j : Nat, j ≤ n ∧ v = .int .i64 (j : Int) ∧ Hid (l.take j = k.take j) ∧ Hid (Kx none w wr [])) (fun v _ => n - (intOf v).toNat)
  case atStart => exact ⟨0, Nat.zero_le _, rfl, by show _ = _; simp, Kx.nil _ _⟩
  case round =>
    obtain ⟨j, hj, rfl, HE, HK⟩ := hrel
    by_cases hlt : j < n
    · obtain ⟨x0, x1, x2, x3, hx, _⟩ := HR1.out.get (j := j) (by rw [HL.out]; exact hlt)
      obtain ⟨y0, y1, y2, y3, hy, _⟩ := HR2.out.get (j := j) (by rw [HKK.out]; exact hlt)
      obtain ⟨a0, a1, a2, a3⟩ := (HR1.out.oldn HK.out).four hx
      obtain ⟨d0, d1, d2, d3⟩ := (HR2.out.oldn HK.out).four hy
      have i0 : (0 : Int) ≤ (j : Int) := by omega
      have i1 : (j : Int) < (n : Int) := by omega
      by_cases hxy : [x0, x1, x2, x3] = [y0, y1, y2, y3]
      · have HE2 : Hid (l.take (j + 1) = k.take (j + 1)) := Lib.hid (by
          have g1 := (List.getElem?_eq_some_iff.1 hx)
          have g2 := (List.getElem?_eq_some_iff.1 hy)
          obtain ⟨g1, e1⟩ := g1
          obtain ⟨g2, e2⟩ := g2
          rw [List.take_succ_eq_append_getElem g1, List.take_succ_eq_append_getElem g2, e1, e2, hxy, HE.out])
        injection hxy with e0 hxy
        injection hxy with e1 hxy
        injection hxy with e2 hxy
        injection hxy with e3 hxy
        subst e0 e1 e2 e3
        clear hxy hx hy HE
        go_wp2_with fail
        go_quiet (fail)
        go_wp2_with fail
        have HK2 := Lib.hid (HK.out.drewN nq)
        go_roundw
        case rel => exact ⟨j + 1, by omega, by go_num, HE2, HK2⟩
        case measure => simp [intOf]; omega
      · have s1 : same [x0, x1, x2, x3] [y0, y1, y2, y3] = false := same_no hxy
        have HBB : Hid (bb = false) := Lib.hid (by
          rw [← HB.out]
          refine sameL_no (fun e => hxy ?_)
          rw [e, hy] at hx
          injection hx with hx
          exact hx.symm)
        clear hxy hx hy HE
        go_wp2_with fail
        go_quiet (fail)
        go_wp2_with fail
        have HK2 := Lib.hid (HK.out.drewN nq)
        go_ret
        exact ⟨by rw [HBB.out]; rfl, HK2.out.be.plain⟩
    · obtain rfl : j = n := by omega
      have HBB : Hid (bb = true) := Lib.hid (by
        rw [← HB.out]
        have h := HE.out
        rw [List.take_of_length_le (by rw [HL.out]; omega), List.take_of_length_le (by rw [HKK.out]; omega)] at h
        rw [h]; exact sameL_yes _)
      go_wp2_with fail
      go_ret
      exact ⟨by rw [HBB.out]; rfl, HK.out.be.plain⟩
theorem samer_nil (A B : Option Addr) (c1 c2 : Nat) (w : World) :
    Calls Tryd.prog 8 #[.slice A 0 c1, .slice B 0 c2] w fun e w' => e = .returned (.bool (sameL [] [])) ∧ Below w.heap.size w w' := by
  rw [sameL_yes]
  go_enter Tryd.func8, Tryd.ntmps8
  go_wp2_with fail
  refine wp_loop_rounds 1 ?_
  rw [rounds_succ]
  go_wp2_with fail
  go_ret
  exact ⟨rfl, Below.refl _ _⟩
theorem samer_ne (A B : Option Addr) (n m c1 c2 : Nat) (l k : Dl) (w : World) (hl : l.length = n) (hk : k.length = m) (hne : n ≠ m) :
    Calls Tryd.prog 8 #[.slice A n c1, .slice B m c2] w fun e w' => e = .returned (.bool (sameL l k)) ∧ Below w.heap.size w w' := by
  rw [sameL_no (fun e => hne (by rw [← hl, ← hk, e]))]
  have i0 : ((n : Int) != (m : Int)) = true := by rw [bne_iff_ne]; omega
  have i1 : (n != m) = true := by rw [bne_iff_ne]; omega
  have i2 : ((n : Int) == (m : Int)) = false := by rw [beq_eq_false_iff_ne]; omega
  clear hl hk hne
  go_enter Tryd.func8, Tryd.ntmps8
  go_wp2_with fail
  go_ret
  exact ⟨rfl, Below.refl _ _⟩
theorem samer {A B : Option Addr} {n m c1 c2 : Nat} {l k : Dl} (w : World) (hl : l.length = n) (hk : k.length = m) (hn : n ≤ 1024) (r1 : Dd w A l) (r2 : Dd w B k) :
    Calls Tryd.prog 8 #[.slice A n c1, .slice B m c2] w fun e w' => e = .returned (.bool (sameL l k)) ∧ Below w.heap.size w w' := by
  by_cases hnm : n = m
  · subst hnm
    by_cases h0 : l = []
    · subst h0
      obtain rfl : n = 0 := by simpa using hl.symm
      obtain rfl : k = [] := List.eq_nil_of_length_eq_zero hk
      exact samer_nil A B c1 c2 w
    · have h1 : 1 ≤ n := by rw [← hl]; exact List.length_pos_iff.2 h0
      obtain ⟨b1, o1, rfl, d1⟩ := r1.2 h0
      obtain ⟨b2, o2, rfl, d2⟩ := r2.2 (fun e => by rw [e] at hk; simp at hk; omega)
      exact samer_row b1 o1 c1 b2 o2 c2 n l k w hl hk h1 hn d1 d2
  · exact samer_ne A B n m c1 c2 l k w hl hk hnm
set_option maxRecDepth 100000 in
set_option maxHeartbeats 4000000 in
theorem equal_row (b1 o1 c1 b2 o2 c2 n : Nat) (l k : Dl) (w : World) (hl : l.length = n) (hk : k.length = n) (h1 : 1 ≤ n) (hn : n ≤ 1024) (r1 : DRow w b1 o1 l) (r2 : DRow w b2 o2 k) :
    Calls Tryd.prog 16 #[.slice (some ⟨b1, o1, none⟩) n c1, .slice (some ⟨b2, o2, none⟩) n c2] w fun e w' => e = .returned (.bool (sameL l k)) ∧ Below w.heap.size w w' := by
  have q4 := eq4s
  have s0 := same_self
  have HR1 := Lib.hid r1
  have HR2 := Lib.hid r2
  have HL := Lib.hid hl
  have HKK := Lib.hid hk
  obtain ⟨bb, hbb⟩ : ∃ bb, sameL l k = bb := ⟨_, rfl⟩
  rw [hbb]
  have HB := Lib.hid hbb
  clear hbb r1 r2 hl hk
  go_enter Tryd.func16, Tryd.ntmps16
  go_wp2_with fail
  go_loopw [13] (fun v wr => ∃ j : Nat, j ≤ n ∧ v = .int .i64 (j : Int) ∧ Hid (l.take j = k.take j) ∧ Hid (Kx none w wr [])) (fun v _ => n - (intOf v).toNat)
  case atStart => exact ⟨0, Nat.zero_le _, rfl, by show _ = _; simp, Kx.nil _ _⟩
  case round =>
    obtain ⟨j, hj, rfl, HE, HK⟩ := hrel
    by_cases hlt : j < n
    · obtain ⟨x0, x1, x2, x3, hx, _⟩ := HR1.out.get (j := j) (by rw [HL.out]; exact hlt)
      obtain ⟨y0, y1, y2, y3, hy, _⟩ := HR2.out.get (j := j) (by rw [HKK.out]; exact hlt)
      obtain ⟨a0, a1, a2, a3⟩ := (HR1.out.oldn HK.out).four hx
      obtain ⟨d0, d1, d2, d3⟩ := (HR2.out.oldn HK.out).four hy
      have i0 : (0 : Int) ≤ (j : Int) := by omega
      have i1 : (j : Int) < (n : Int) := by omega
      by_cases hxy : [x0, x1, x2, x3] = [y0, y1, y2, y3]
      · have HE2 : Hid (l.take (j + 1) = k.take (j + 1)) := Lib.hid (by
          have g1 := (List.getElem?_eq_some_iff.1 hx)
          have g2 := (List.getElem?_eq_some_iff.1 hy)
          obtain ⟨g1, e1⟩ := g1
          obtain ⟨g2, e2⟩ := g2
          rw [List.take_succ_eq_append_getElem g1, List.take_succ_eq_append_getElem g2, e1, e2, hxy, HE.out])
        injection hxy with e0 hxy
        injection hxy with e1 hxy
        injection hxy with e2 hxy
        injection hxy with e3 hxy
        subst e0 e1 e2 e3
        clear hxy hx hy HE
        go_wp2_with fail
        go_quiet (fail)
        go_wp2_with fail
        have HK2 := Lib.hid (HK.out.drewN nq)
        go_roundw
        case rel => exact ⟨j + 1, by omega, by go_num, HE2, HK2⟩
        case measure => simp [intOf]; omega
      · have s1 : same [x0, x1, x2, x3] [y0, y1, y2, y3] = false := same_no hxy
        have HBB : Hid (bb = false) := Lib.hid (by
          rw [← HB.out]
          refine sameL_no (fun e => hxy ?_)
          rw [e, hy] at hx
          injection hx with hx
          exact hx.symm)
        clear hxy hx hy HE
        go_wp2_with fail
        go_quiet (fail)
        go_wp2_with fail
        have HK2 := Lib.hid (HK.out.drewN nq)
        go_ret
        exact ⟨by rw [HBB.out]; rfl, HK2.out.be.plain⟩
    · obtain rfl : j = n := by omega
      have HBB : Hid (bb = true) := Lib.hid (by
        rw [← HB.out]
        have h := HE.out
        rw [List.take_of_length_le (by rw [HL.out]; omega), List.take_of_length_le (by rw [HKK.out]; omega)] at h
        rw [h]; exact sameL_yes _)
      go_wp2_with fail
      go_ret
      exact ⟨by rw [HBB.out]; rfl, HK.out.be.plain⟩
theorem equal_nil (A B : Option Addr) (c1 c2 : Nat) (w : World) :
    Calls Tryd.prog 16 #[.slice A 0 c1, .slice B 0 c2] w fun e w' => e = .returned (.bool (sameL [] [])) ∧ Below w.heap.size w w' := by
  rw [sameL_yes]
  go_enter Tryd.func16, Tryd.ntmps16
  go_wp2_with fail
  refine wp_loop_rounds 1 ?_
  rw [rounds_succ]
  go_wp2_with fail
  go_ret
  exact ⟨rfl, Below.refl _ _⟩
theorem equal_ne (A B : Option Addr) (n m c1 c2 : Nat) (l k : Dl) (w : World) (hl : l.length = n) (hk : k.length = m) (hne : n ≠ m) :
    Calls Tryd.prog 16 #[.slice A n c1, .slice B m c2] w fun e w' => e = .returned (.bool (sameL l k)) ∧ Below w.heap.size w w' := by
  rw [sameL_no (fun e => hne (by rw [← hl, ← hk, e]))]
  have i0 : ((n : Int) != (m : Int)) = true := by rw [bne_iff_ne]; omega
  have i1 : (n != m) = true := by rw [bne_iff_ne]; omega
  have i2 : ((n : Int) == (m : Int)) = false := by rw [beq_eq_false_iff_ne]; omega
  clear hl hk hne
  go_enter Tryd.func16, Tryd.ntmps16
  go_wp2_with fail
  go_ret
  exact ⟨rfl, Below.refl _ _⟩
theorem equal {A B : Option Addr} {n m c1 c2 : Nat} {l k : Dl} (w : World) (hl : l.length = n) (hk : k.length = m) (hn : n ≤ 1024) (r1 : Dd w A l) (r2 : Dd w B k) :
    Calls Tryd.prog 16 #[.slice A n c1, .slice B m c2] w fun e w' => e = .returned (.bool (sameL l k)) ∧ Below w.heap.size w w' := by
  by_cases hnm : n = m
  · subst hnm
    by_cases h0 : l = []
    · subst h0
      obtain rfl : n = 0 := by simpa using hl.symm
      obtain rfl : k = [] := List.eq_nil_of_length_eq_zero hk
      exact equal_nil A B c1 c2 w
    · have h1 : 1 ≤ n := by rw [← hl]; exact List.length_pos_iff.2 h0
      obtain ⟨b1, o1, rfl, d1⟩ := r1.2 h0
      obtain ⟨b2, o2, rfl, d2⟩ := r2.2 (fun e => by rw [e] at hk; simp at hk; omega)
      exact equal_row b1 o1 c1 b2 o2 c2 n l k w hl hk h1 hn d1 d2
  · exact equal_ne A B n m c1 c2 l k w hl hk hnm
end Go.Proofs.YtcjclbhkheogpaaDoor
