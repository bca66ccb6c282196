/- The reference's both: what it returns. -/
import Derived.Test.YtgojpflkhnaedaaDoorG9a
import Derived.RegionTactic
set_option linter.unusedVariables false
namespace Go.Proofs.YtgojpflkhnaedaaDoor
open Go.RowKit

theorem own_below {w w' : World} {B K : Nat} {e : TypeId} {size n : Nat} {v : Value} {xs : List Value} (h : w.ownsRow B e size v n xs) (hb : Below K w w') (hk : ∀ g, v.ownBlock = some g → g < K) : w'.ownsRow B e size v n xs := by
  obtain ⟨h1, h2⟩ := h
  refine ⟨h1, ?_⟩
  rcases h2 with h2 | ⟨g, cap, cur, hv, hg, hh, r⟩
  · exact Or.inl h2
  · subst hv
    exact Or.inr ⟨g, cap, cur, rfl, hg, by rw [hb.block g (hk g rfl)]; exact hh, r⟩
theorem own_base {w : World} {B B' : Nat} {e : TypeId} {size n : Nat} {v : Value} {xs : List Value} (h : w.ownsRow B' e size v n xs) (hb : B ≤ B') : w.ownsRow B e size v n xs := by
  obtain ⟨h1, h2⟩ := h
  refine ⟨h1, ?_⟩
  rcases h2 with h2 | ⟨g, cap, cur, hv, hg, r⟩
  · exact Or.inl h2
  · exact Or.inr ⟨g, cap, cur, hv, Nat.le_trans hb hg, r⟩
theorem own_cell {w : World} {B g n cap : Nat} {e : TypeId} {k : IntKind} {xs : List Int} (h : w.ownsRow B e 1 (.slice (some ⟨g, 0, none⟩) n cap) n (xs.map (Value.int k))) (j : Nat) (hj : j < n) (hl : xs.length = n) :
    w.cell? ⟨g, j, none⟩ = some (.int k (xs.getD j 0)) := by
  rw [h.cellAt j (by omega)]
  simp [List.getElem?_map, List.getD, List.getElem?_eq_getElem (show j < xs.length by omega)]

theorem step_zero {w wr : World} {gx cx gy cy j : Nat} {Z Z' Y : List Int} {B : Nat} (hx : wr.ownsRow B 3 1 (.slice (some ⟨gx, 0, none⟩) 32 cx) 32 (Z.map (Value.int .i64)))
    (hy : wr.ownsRow B 3 1 (.slice (some ⟨gy, 0, none⟩) 32 cy) 32 (Y.map (Value.int .i64))) (hne : gy ≠ gx) (hg : B ≤ gx) (hnx : Below B w wr) (hs : Z.set j 0 = Z') :
    (wr.drew.setCell ⟨gx, j, none⟩ (.int .i64 0)).ownsRow B 3 1 (.slice (some ⟨gx, 0, none⟩) 32 cx) 32 (Z'.map (Value.int .i64)) ∧
    (wr.drew.setCell ⟨gx, j, none⟩ (.int .i64 0)).ownsRow B 3 1 (.slice (some ⟨gy, 0, none⟩) 32 cy) 32 (Y.map (Value.int .i64)) ∧ Below B w (wr.drew.setCell ⟨gx, j, none⟩ (.int .i64 0)) := by
  refine ⟨?_, ownsRow_setCell_other hy.drew (by intro h; cases h; exact hne rfl) _, hnx.drew.setCell hg _⟩
  have := (hx.drew.stored j (.int .i64 0)).1
  rw [← hs, List.map_set]; exact this
theorem step_one {w wr : World} {gx cx gy cy j : Nat} {Z Z' Y : List Int} {B : Nat} (hx : wr.ownsRow B 3 1 (.slice (some ⟨gx, 0, none⟩) 32 cx) 32 (Z.map (Value.int .i64)))
    (hy : wr.ownsRow B 3 1 (.slice (some ⟨gy, 0, none⟩) 32 cy) 32 (Y.map (Value.int .i64))) (hne : gy ≠ gx) (hg : B ≤ gx) (hnx : Below B w wr) (hs : Z.set j 1 = Z') :
    ((wr.drew.setCell ⟨gx, j, none⟩ (.int .i64 0)).setCell ⟨gx, j, none⟩ (.int .i64 1)).ownsRow B 3 1 (.slice (some ⟨gx, 0, none⟩) 32 cx) 32 (Z'.map (Value.int .i64)) ∧
    ((wr.drew.setCell ⟨gx, j, none⟩ (.int .i64 0)).setCell ⟨gx, j, none⟩ (.int .i64 1)).ownsRow B 3 1 (.slice (some ⟨gy, 0, none⟩) 32 cy) 32 (Y.map (Value.int .i64)) ∧
    Below B w ((wr.drew.setCell ⟨gx, j, none⟩ (.int .i64 0)).setCell ⟨gx, j, none⟩ (.int .i64 1)) := by
  have h0 := step_zero (Z' := Z.set j 0) hx hy hne hg hnx rfl
  refine ⟨?_, ownsRow_setCell_other h0.2.1 (by intro h; cases h; exact hne rfl) _, h0.2.2.setCell hg _⟩
  have := (h0.1.stored j (.int .i64 1)).1
  rw [← hs, List.map_set]
  rw [List.map_set, List.set_set] at this
  exact this

set_option maxHeartbeats 4000000 in
theorem both_any (op a b : Int) (w : World) (hop : op = 9 ∨ op = 10 ∨ op = 11) (a0 : 0 ≤ a) (a1 : a < 4294967296) (b0 : 0 ≤ b) (b1 : b < 4294967296) :
    Calls Tryd.prog 41 #[.int .i64 op, .int .u32 a, .int .u32 b] w fun e w' => e = .returned (.int .u32 (ap op a b)) ∧ Below w.heap.size w w' := by
  rw [← ofl_ap op a b hop a0 a1 b0 b1]
  have lx := length_bl 32 a
  have ly := length_bl 32 b
  have tx := bl_bit 32 a
  have ty := bl_bit 32 b
  have cx1 := bits_any a
  have cy1 := bits_any b
  generalize bl 32 a = X at *
  generalize bl 32 b = Y at *
  have LX := Lib.hid lx
  have LY := Lib.hid ly
  have TX := Lib.hid (bit_getD X tx)
  have TY := Lib.hid (bit_getD Y ty)
  have CX := Lib.hid cx1
  have CY := Lib.hid cy1
  clear lx ly tx ty cx1 cy1
  rcases hop with rfl | rfl | rfl
  · go_enter Tryd.func41, Tryd.ntmps41
    go_wp2_with fail
    refine (CX.out _ a0 a1).mono ?_
    rintro e w1 ⟨gx, cx, rfl, hg1, hs1, hox, hb1⟩
    go_wp2_with fail
    refine (CY.out _ b0 b1).mono ?_
    rintro e w2 ⟨gy, cy, rfl, hg2, hs2, hoy, hb2⟩
    have hox2 := own_below hox hb2 (by intro g hg; cases hg; exact hs1)
    have hoy2 := own_base hoy hb1.size
    have hne : gy ≠ gx := by omega
    have hb12 := hb1.trans (hb2.mono hb1.size)
    clear hox hoy hb1 hb2
    go_wp2
    go_loopw [9] (fun si wr => ∃ j : Nat, j ≤ 32 ∧ si = .int .i64 j ∧ wr.ownsRow w.heap.size 3 1 (.slice (some ⟨gx, 0, none⟩) 32 cx) 32 ((mixd 9 j X Y).map (Value.int .i64)) ∧
        wr.ownsRow w.heap.size 3 1 (.slice (some ⟨gy, 0, none⟩) 32 cy) 32 (Y.map (Value.int .i64)) ∧ Below w.heap.size w wr)
      (fun si _ => 32 - (intOf si).toNat)
    case atStart => exact ⟨0, Nat.zero_le _, rfl, by rw [mixd_zero]; exact hox2, hoy2, hb12⟩
    case round =>
      obtain ⟨j, hj, rfl, hx, hy, hnx⟩ := hrel
      by_cases hlt : j < 32
      · have kx := own_cell hx j hlt (by rw [length_mixd 9 X Y (by rw [LX.out, LY.out]) j (by rw [LX.out]; exact hj), LX.out])
        have ky := own_cell hy j hlt LY.out
        rw [mixd_at 9 X Y (by rw [LX.out, LY.out]) j (by rw [LX.out]; exact hlt)] at kx
        have fx := hx.frozenAt j
        have hs := mixd_succ 9 X Y (by rw [LX.out, LY.out]) j (by rw [LX.out]; exact hlt)
        have bx := TX.out j
        have bY := TY.out j
        obtain ⟨x, ex⟩ : ∃ x, X.getD j 0 = x := ⟨_, rfl⟩
        obtain ⟨y, ey⟩ : ∃ y, Y.getD j 0 = y := ⟨_, rfl⟩
        rw [ex] at kx bx hs
        rw [ey] at ky bY hs
        have HX := Lib.hid hx
        have HY := Lib.hid hy
        clear ex ey hj hx hy
        rcases bx with rfl | rfl
        all_goals rcases bY with rfl | rfl
        · rw [show bit2 9 0 0 = 0 by decide] at hs
          have HS := Lib.hid hs
          clear hs
          go_wp2
          go_region
          all_goals
            go_wp2
            have R := step_zero HX.out HY.out hne hg1 hnx HS.out
            go_roundw
            case rel => exact ⟨j + 1, by omega, by go_num, R.1, R.2.1, R.2.2⟩
            case measure => simp [intOf]; omega
        · rw [show bit2 9 0 1 = 0 by decide] at hs
          have HS := Lib.hid hs
          clear hs
          go_wp2
          go_region
          all_goals
            go_wp2
            have R := step_zero HX.out HY.out hne hg1 hnx HS.out
            go_roundw
            case rel => exact ⟨j + 1, by omega, by go_num, R.1, R.2.1, R.2.2⟩
            case measure => simp [intOf]; omega
        · rw [show bit2 9 1 0 = 0 by decide] at hs
          have HS := Lib.hid hs
          clear hs
          go_wp2
          go_region
          all_goals
            go_wp2
            have R := step_zero HX.out HY.out hne hg1 hnx HS.out
            go_roundw
            case rel => exact ⟨j + 1, by omega, by go_num, R.1, R.2.1, R.2.2⟩
            case measure => simp [intOf]; omega
        · rw [show bit2 9 1 1 = 1 by decide] at hs
          have HS := Lib.hid hs
          clear hs
          go_wp2
          go_region
          all_goals
            go_wp2
            have R := step_one HX.out HY.out hne hg1 hnx HS.out
            go_roundw
            case rel => exact ⟨j + 1, by omega, by go_num, R.1, R.2.1, R.2.2⟩
            case measure => simp [intOf]; omega
      · obtain rfl : j = 32 := by omega
        rw [mixd_all 9 X Y (by rw [LX.out, LY.out]) 32 (by rw [LX.out]; exact Nat.le_refl _)] at hx
        have hcc := fun t (ht : t < 32) => own_cell hx t ht (by rw [length_zip2 9 X Y (by rw [LX.out, LY.out]), LX.out])
        have HCC := Lib.hid hcc
        have HZ := Lib.hid (zip2_bit 9 X Y)
        have HLZ : Hid ((zip2 9 X Y).length = 32) := by show _ = _; rw [length_zip2 9 X Y (by rw [LX.out, LY.out]), LX.out]
        clear hcc hx hy
        go_wp2_with fail
        refine (of_bits gx cx (zip2 9 X Y) _ HLZ.out HZ.out HCC.out).mono ?_
        rintro e w' ⟨rfl, rfl⟩
        go_wp2
        go_ret
        exact ⟨rfl, hnx⟩
  · go_enter Tryd.func41, Tryd.ntmps41
    go_wp2_with fail
    refine (CX.out _ a0 a1).mono ?_
    rintro e w1 ⟨gx, cx, rfl, hg1, hs1, hox, hb1⟩
    go_wp2_with fail
    refine (CY.out _ b0 b1).mono ?_
    rintro e w2 ⟨gy, cy, rfl, hg2, hs2, hoy, hb2⟩
    have hox2 := own_below hox hb2 (by intro g hg; cases hg; exact hs1)
    have hoy2 := own_base hoy hb1.size
    have hne : gy ≠ gx := by omega
    have hb12 := hb1.trans (hb2.mono hb1.size)
    clear hox hoy hb1 hb2
    go_wp2
    go_loopw [9] (fun si wr => ∃ j : Nat, j ≤ 32 ∧ si = .int .i64 j ∧ wr.ownsRow w.heap.size 3 1 (.slice (some ⟨gx, 0, none⟩) 32 cx) 32 ((mixd 10 j X Y).map (Value.int .i64)) ∧
        wr.ownsRow w.heap.size 3 1 (.slice (some ⟨gy, 0, none⟩) 32 cy) 32 (Y.map (Value.int .i64)) ∧ Below w.heap.size w wr)
      (fun si _ => 32 - (intOf si).toNat)
    case atStart => exact ⟨0, Nat.zero_le _, rfl, by rw [mixd_zero]; exact hox2, hoy2, hb12⟩
    case round =>
      obtain ⟨j, hj, rfl, hx, hy, hnx⟩ := hrel
      by_cases hlt : j < 32
      · have kx := own_cell hx j hlt (by rw [length_mixd 10 X Y (by rw [LX.out, LY.out]) j (by rw [LX.out]; exact hj), LX.out])
        have ky := own_cell hy j hlt LY.out
        rw [mixd_at 10 X Y (by rw [LX.out, LY.out]) j (by rw [LX.out]; exact hlt)] at kx
        have fx := hx.frozenAt j
        have hs := mixd_succ 10 X Y (by rw [LX.out, LY.out]) j (by rw [LX.out]; exact hlt)
        have bx := TX.out j
        have bY := TY.out j
        obtain ⟨x, ex⟩ : ∃ x, X.getD j 0 = x := ⟨_, rfl⟩
        obtain ⟨y, ey⟩ : ∃ y, Y.getD j 0 = y := ⟨_, rfl⟩
        rw [ex] at kx bx hs
        rw [ey] at ky bY hs
        have HX := Lib.hid hx
        have HY := Lib.hid hy
        clear ex ey hj hx hy
        rcases bx with rfl | rfl
        all_goals rcases bY with rfl | rfl
        · rw [show bit2 10 0 0 = 0 by decide] at hs
          have HS := Lib.hid hs
          clear hs
          go_wp2
          go_region
          all_goals
            go_wp2
            have R := step_zero HX.out HY.out hne hg1 hnx HS.out
            go_roundw
            case rel => exact ⟨j + 1, by omega, by go_num, R.1, R.2.1, R.2.2⟩
            case measure => simp [intOf]; omega
        · rw [show bit2 10 0 1 = 1 by decide] at hs
          have HS := Lib.hid hs
          clear hs
          go_wp2
          go_region
          all_goals
            go_wp2
            have R := step_one HX.out HY.out hne hg1 hnx HS.out
            go_roundw
            case rel => exact ⟨j + 1, by omega, by go_num, R.1, R.2.1, R.2.2⟩
            case measure => simp [intOf]; omega
        · rw [show bit2 10 1 0 = 1 by decide] at hs
          have HS := Lib.hid hs
          clear hs
          go_wp2
          go_region
          all_goals
            go_wp2
            have R := step_one HX.out HY.out hne hg1 hnx HS.out
            go_roundw
            case rel => exact ⟨j + 1, by omega, by go_num, R.1, R.2.1, R.2.2⟩
            case measure => simp [intOf]; omega
        · rw [show bit2 10 1 1 = 1 by decide] at hs
          have HS := Lib.hid hs
          clear hs
          go_wp2
          go_region
          all_goals
            go_wp2
            have R := step_one HX.out HY.out hne hg1 hnx HS.out
            go_roundw
            case rel => exact ⟨j + 1, by omega, by go_num, R.1, R.2.1, R.2.2⟩
            case measure => simp [intOf]; omega
      · obtain rfl : j = 32 := by omega
        rw [mixd_all 10 X Y (by rw [LX.out, LY.out]) 32 (by rw [LX.out]; exact Nat.le_refl _)] at hx
        have hcc := fun t (ht : t < 32) => own_cell hx t ht (by rw [length_zip2 10 X Y (by rw [LX.out, LY.out]), LX.out])
        have HCC := Lib.hid hcc
        have HZ := Lib.hid (zip2_bit 10 X Y)
        have HLZ : Hid ((zip2 10 X Y).length = 32) := by show _ = _; rw [length_zip2 10 X Y (by rw [LX.out, LY.out]), LX.out]
        clear hcc hx hy
        go_wp2_with fail
        refine (of_bits gx cx (zip2 10 X Y) _ HLZ.out HZ.out HCC.out).mono ?_
        rintro e w' ⟨rfl, rfl⟩
        go_wp2
        go_ret
        exact ⟨rfl, hnx⟩
  · go_enter Tryd.func41, Tryd.ntmps41
    go_wp2_with fail
    refine (CX.out _ a0 a1).mono ?_
    rintro e w1 ⟨gx, cx, rfl, hg1, hs1, hox, hb1⟩
    go_wp2_with fail
    refine (CY.out _ b0 b1).mono ?_
    rintro e w2 ⟨gy, cy, rfl, hg2, hs2, hoy, hb2⟩
    have hox2 := own_below hox hb2 (by intro g hg; cases hg; exact hs1)
    have hoy2 := own_base hoy hb1.size
    have hne : gy ≠ gx := by omega
    have hb12 := hb1.trans (hb2.mono hb1.size)
    clear hox hoy hb1 hb2
    go_wp2
    go_loopw [9] (fun si wr => ∃ j : Nat, j ≤ 32 ∧ si = .int .i64 j ∧ wr.ownsRow w.heap.size 3 1 (.slice (some ⟨gx, 0, none⟩) 32 cx) 32 ((mixd 11 j X Y).map (Value.int .i64)) ∧
        wr.ownsRow w.heap.size 3 1 (.slice (some ⟨gy, 0, none⟩) 32 cy) 32 (Y.map (Value.int .i64)) ∧ Below w.heap.size w wr)
      (fun si _ => 32 - (intOf si).toNat)
    case atStart => exact ⟨0, Nat.zero_le _, rfl, by rw [mixd_zero]; exact hox2, hoy2, hb12⟩
    case round =>
      obtain ⟨j, hj, rfl, hx, hy, hnx⟩ := hrel
      by_cases hlt : j < 32
      · have kx := own_cell hx j hlt (by rw [length_mixd 11 X Y (by rw [LX.out, LY.out]) j (by rw [LX.out]; exact hj), LX.out])
        have ky := own_cell hy j hlt LY.out
        rw [mixd_at 11 X Y (by rw [LX.out, LY.out]) j (by rw [LX.out]; exact hlt)] at kx
        have fx := hx.frozenAt j
        have hs := mixd_succ 11 X Y (by rw [LX.out, LY.out]) j (by rw [LX.out]; exact hlt)
        have bx := TX.out j
        have bY := TY.out j
        obtain ⟨x, ex⟩ : ∃ x, X.getD j 0 = x := ⟨_, rfl⟩
        obtain ⟨y, ey⟩ : ∃ y, Y.getD j 0 = y := ⟨_, rfl⟩
        rw [ex] at kx bx hs
        rw [ey] at ky bY hs
        have HX := Lib.hid hx
        have HY := Lib.hid hy
        clear ex ey hj hx hy
        rcases bx with rfl | rfl
        all_goals rcases bY with rfl | rfl
        · rw [show bit2 11 0 0 = 0 by decide] at hs
          have HS := Lib.hid hs
          clear hs
          go_wp2
          go_region
          all_goals
            go_wp2
            have R := step_zero HX.out HY.out hne hg1 hnx HS.out
            go_roundw
            case rel => exact ⟨j + 1, by omega, by go_num, R.1, R.2.1, R.2.2⟩
            case measure => simp [intOf]; omega
        · rw [show bit2 11 0 1 = 1 by decide] at hs
          have HS := Lib.hid hs
          clear hs
          go_wp2
          go_region
          all_goals
            go_wp2
            have R := step_one HX.out HY.out hne hg1 hnx HS.out
            go_roundw
            case rel => exact ⟨j + 1, by omega, by go_num, R.1, R.2.1, R.2.2⟩
            case measure => simp [intOf]; omega
        · rw [show bit2 11 1 0 = 1 by decide] at hs
          have HS := Lib.hid hs
          clear hs
          go_wp2
          go_region
          all_goals
            go_wp2
            have R := step_one HX.out HY.out hne hg1 hnx HS.out
            go_roundw
            case rel => exact ⟨j + 1, by omega, by go_num, R.1, R.2.1, R.2.2⟩
            case measure => simp [intOf]; omega
        · rw [show bit2 11 1 1 = 0 by decide] at hs
          have HS := Lib.hid hs
          clear hs
          go_wp2
          go_region
          all_goals
            go_wp2
            have R := step_zero HX.out HY.out hne hg1 hnx HS.out
            go_roundw
            case rel => exact ⟨j + 1, by omega, by go_num, R.1, R.2.1, R.2.2⟩
            case measure => simp [intOf]; omega
      · obtain rfl : j = 32 := by omega
        rw [mixd_all 11 X Y (by rw [LX.out, LY.out]) 32 (by rw [LX.out]; exact Nat.le_refl _)] at hx
        have hcc := fun t (ht : t < 32) => own_cell hx t ht (by rw [length_zip2 11 X Y (by rw [LX.out, LY.out]), LX.out])
        have HCC := Lib.hid hcc
        have HZ := Lib.hid (zip2_bit 11 X Y)
        have HLZ : Hid ((zip2 11 X Y).length = 32) := by show _ = _; rw [length_zip2 11 X Y (by rw [LX.out, LY.out]), LX.out]
        clear hcc hx hy
        go_wp2_with fail
        refine (of_bits gx cx (zip2 11 X Y) _ HLZ.out HZ.out HCC.out).mono ?_
        rintro e w' ⟨rfl, rfl⟩
        go_wp2
        go_ret
        exact ⟨rfl, hnx⟩
end Go.Proofs.YtgojpflkhnaedaaDoor
