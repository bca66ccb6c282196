/- The law ImagePrefix: for every two images. No condition. -/
import Derived.Test.YtmifiadkhmglmaaImgQ
import Derived.Test.YtmifiadkhmglmaaImgW
namespace Go.Proofs.Ytmifiadkhmglmaa.imagePrefix
open Go.ChangeShapes Go.WideShapes Go.ChangeAt Go.RowKit
open Go.ChangeMaps (open_string shut_string)
set_option linter.unusedVariables false

theorem op_at {l : List Oper} {n : Nat} {o : Oper} (h : l[n]? = some o) : (List.toArray l)[n]? = some o := by
  rw [List.getElem?_toArray]; exact h
theorem img4 {w W : World} {a b : Nat} {t : TypeId} {u0 u1 v0 v1 : Value} {bs : List (Nat × Obj)} (h : Kx none w W ((a, .cells #[u0, u1] t (0, 0)) :: (b, .cells #[v0, v1] t (0, 0)) :: bs)) :
    W.cell? ⟨a, 0, none⟩ = some u0 ∧ W.cell? ⟨a, 1, none⟩ = some u1 ∧ W.cell? ⟨b, 0, none⟩ = some v0 ∧ W.cell? ⟨b, 1, none⟩ = some v1 :=
  ⟨(cells2 (h.at 0 rfl)).1, (cells2 (h.at 0 rfl)).2.1, (cells2 (h.at 1 rfl)).1, (cells2 (h.at 1 rfl)).2.1⟩
theorem nums_take (t : ByteArray) (k : Nat) : nums (t.extract 0 k) = (nums t).take k := by
  unfold nums
  rw [← List.map_take]
  congr 1
  simp
/-- Of two images the one's bytes stand ahead of the other one's only if they are alike. -/
theorem ahead_same {k1 k2 : List Int} {d1 d2 : Int} (h1 : irt k1 d1 = true) (h2 : irt k2 d2 = true) (w1 : W32s k1) (w2 : W32s k2)
    (hs : (ibs k1 d1).size ≤ (ibs k2 d2).size) : ((ibs k2 d2).extract 0 (ibs k1 d1).size = ibs k1 d1) ↔ (k1 = k2 ∧ d1 = d2) := by
  constructor
  · intro h
    have e : nums (ibs k1 d1) = (nums (ibs k2 d2)).take (ibs k1 d1).size := by rw [← nums_take, h]
    rw [nums_ibs h1 w1, nums_ibs h2 w2] at e
    refine ibl_prefix h1 h2 w1 w2 ((ibl k2 d2).drop (ibs k1 d1).size) ?_
    rw [e]
    exact List.take_append_drop _ _
  · rintro ⟨rfl, rfl⟩
    apply ByteArray.ext
    apply Array.toList_inj.1
    simp
set_option maxRecDepth 100000 in
set_option maxHeartbeats 4000000 in
theorem walk {A B : Option Addr} {n c m k : Nat} {k1 k2 : List Int} {d1 d2 : Int} (w : World) (hM : n ≤ c ∧ c ≤ maxLen ∧ Rd w A n k1 ∧ W32s k1) (hN : m ≤ k ∧ k ≤ maxLen ∧ Rd w B m k2 ∧ W32s k2) :
    Calls Try.prog 8 #[.agg #[.slice A n c, .int .i64 d1], .agg #[.slice B m k, .int .i64 d2]] w fun e w' => e = .returned (.bool true) ∧ Below w.heap.size w w' := by
  obtain ⟨_, _, hr, hw⟩ := hM
  obtain ⟨_, _, hs, hx⟩ := hN
  have hl := hr.1
  have hl2 := hs.1
  have HK := Lib.hid (((Kx.nil none w).more (.cells #[.slice A n c, .int .i64 d1] 24 (0, 0))).add (w.heap.size + 1) (by simp) (.cells #[.slice B m k, .int .i64 d2] 24 (0, 0)))
  have HR := Lib.hid hr
  have HS := Lib.hid hs
  by_cases hn : n ≤ 500
  · have i1 : decide ((500 : Int) < (n : Int)) = false := decide_eq_false (by omega)
    by_cases hm : m ≤ 500
    · have i2 : decide ((500 : Int) < (m : Int)) = false := decide_eq_false (by omega)
      have c1 := fun (w : World) => right8_ref (A := A) (c := c) (d := d1) k1 w hl (by omega)
      have c2 := fun (w : World) => right8_ref (A := B) (c := k) (d := d2) k2 w hl2 (by omega)
      cases h1 : irt k1 d1 with
      | true =>
        rw [h1] at c1
        have C1 := Lib.hid c1
        clear c1
        cases h2 : irt k2 d2 with
        | true =>
          rw [h2] at c2
          have C2 := Lib.hid c2
          clear c2
          have c3 := fun (w : World) (h : Rd w A n k1) => put8 (c := c) (d := d1) w h (by omega)
          have c4 := fun (w : World) (h : Rd w B m k2) => put8 (c := k) (d := d2) w h (by omega)
          have c5 := fun (w : World) (h : Rd w A n k1) (h2 : Rd w B m k2) => same8_ref (c := c) (e := k) (d1 := d1) (d2 := d2) w h h2 (by omega) (by omega)
          rw [show pts k1 d1 = ibs k1 d1 from by unfold pts; rw [h1]; rfl, show pte k1 d1 = 0 from by unfold pte; rw [h1]; rfl] at c3
          rw [show pts k2 d2 = ibs k2 d2 from by unfold pts; rw [h2]; rfl, show pte k2 d2 = 0 from by unfold pte; rw [h2]; rfl] at c4
          have ha := ahead_same h1 h2 hw hx
          have hz : (k1 = k2 ∧ d1 = d2) → (ibs k1 d1).size ≤ (ibs k2 d2).size := by rintro ⟨rfl, rfl⟩; exact Nat.le_refl _
          obtain ⟨S, eS⟩ : ∃ S, ibs k1 d1 = S := ⟨_, rfl⟩
          obtain ⟨T, eT⟩ : ∃ T, ibs k2 d2 = T := ⟨_, rfl⟩
          rw [eS] at c3 ha hz
          rw [eT] at c4 ha hz
          obtain ⟨q, hq⟩ : ∃ q, decide (k1 = k2 ∧ d1 = d2) = q := ⟨_, rfl⟩
          rw [hq] at c5
          have e1 : (q == q) = true := by simp
          have C3 := Lib.hid c3
          have C4 := Lib.hid c4
          have C5 := Lib.hid c5
          clear c3 c4 c5 eS eT hr hs hw hx h1 h2 hn hm hl hl2
          by_cases hz1 : S.size ≤ T.size
          · have i3 : (S.size : Int) ≤ (T.size : Int) := by omega
            have i4 : decide ((S.size : Int) ≤ (T.size : Int)) = true := decide_eq_true i3
            have e2 : ((T.extract 0 S.size).toList == S.toList) = q := by
              rw [← hq, ByteArray.toList_eq, ByteArray.toList_eq, Bool.eq_iff_iff, beq_iff_eq, decide_eq_true_iff, ← ha hz1]
              exact ⟨fun h => by apply ByteArray.ext; exact Array.toList_inj.1 h, fun h => by rw [h]⟩
            clear ha hz hq i3
            go_enter Try.func8, Try.ntmps8
            go_wp2_with fail
            refine (awake8 _).mono ?_
            rintro e w0 ⟨rfl, hb⟩
            replace HK := Lib.hid (HK.out.after hb)
            clear hb
            obtain ⟨a0, a1, b0, b1⟩ := img4 HK.out
            go_wp2_with fail
            refine (C1.out _).mono ?_
            rintro e w1 ⟨rfl, hb⟩
            replace HK := Lib.hid (HK.out.after hb)
            clear a0 a1 b0 b1
            clear hb
            obtain ⟨a0, a1, b0, b1⟩ := img4 HK.out
            go_wp2_with fail
            refine (C2.out _).mono ?_
            rintro e w2 ⟨rfl, hb⟩
            replace HK := Lib.hid (HK.out.after hb)
            clear a0 a1 b0 b1
            clear hb
            obtain ⟨a0, a1, b0, b1⟩ := img4 HK.out
            go_wp2_with fail
            refine (C3.out _ (HR.out.kx HK.out)).mono ?_
            rintro e w3 ⟨rfl, hb⟩
            replace HK := Lib.hid (HK.out.after hb)
            clear a0 a1 b0 b1
            clear hb
            obtain ⟨a0, a1, b0, b1⟩ := img4 HK.out
            go_wp2_with fail
            refine (C4.out _ (HS.out.kx HK.out)).mono ?_
            rintro e w4 ⟨rfl, hb⟩
            replace HK := Lib.hid (HK.out.after hb)
            clear a0 a1 b0 b1
            clear hb
            obtain ⟨a0, a1, b0, b1⟩ := img4 HK.out
            go_wp2_with fail
            go_region_held3 (fun W => W.cell? ⟨w.heap.size, 0, none⟩ = some (.slice A n c) ∧ W.cell? ⟨w.heap.size, 1, none⟩ = some (.int .i64 d1) ∧ W.cell? ⟨w.heap.size + 1, 0, none⟩ = some (.slice B m k) ∧ W.cell? ⟨w.heap.size + 1, 1, none⟩ = some (.int .i64 d2))
              (first | exact img4 HK.out | exact img4 HK.out.drew)
              (first
                | (go_at_call 14; with_reducible refine (C5.out _ (HR.out.kx HK.out.drew) (HS.out.kx HK.out.drew)).mono ?_; rintro e w' ⟨rfl, hb⟩; replace HK := Lib.hid (HK.out.drew.after hb); clear hb))
            all_goals
              go_wp2_with fail
              go_ret
              exact ⟨rfl, HK.out.be.plain⟩
          · have i4 : decide ((S.size : Int) ≤ (T.size : Int)) = false := decide_eq_false (by omega)
            obtain rfl : q = false := by rw [← hq]; exact decide_eq_false (fun h => hz1 (hz h))
            have i5 : decide (S.size ≤ T.size) = false := decide_eq_false hz1
            have e3 : (S.size : Int) ≤ (T.size : Int) ↔ False := ⟨fun h => hz1 (by omega), False.elim⟩
            clear ha hz hq
            go_enter Try.func8, Try.ntmps8
            go_wp2_with fail
            refine (awake8 _).mono ?_
            rintro e w0 ⟨rfl, hb⟩
            replace HK := Lib.hid (HK.out.after hb)
            clear hb
            obtain ⟨a0, a1, b0, b1⟩ := img4 HK.out
            go_wp2_with fail
            refine (C1.out _).mono ?_
            rintro e w1 ⟨rfl, hb⟩
            replace HK := Lib.hid (HK.out.after hb)
            clear a0 a1 b0 b1
            clear hb
            obtain ⟨a0, a1, b0, b1⟩ := img4 HK.out
            go_wp2_with fail
            refine (C2.out _).mono ?_
            rintro e w2 ⟨rfl, hb⟩
            replace HK := Lib.hid (HK.out.after hb)
            clear a0 a1 b0 b1
            clear hb
            obtain ⟨a0, a1, b0, b1⟩ := img4 HK.out
            go_wp2_with fail
            refine (C3.out _ (HR.out.kx HK.out)).mono ?_
            rintro e w3 ⟨rfl, hb⟩
            replace HK := Lib.hid (HK.out.after hb)
            clear a0 a1 b0 b1
            clear hb
            obtain ⟨a0, a1, b0, b1⟩ := img4 HK.out
            go_wp2_with fail
            refine (C4.out _ (HS.out.kx HK.out)).mono ?_
            rintro e w4 ⟨rfl, hb⟩
            replace HK := Lib.hid (HK.out.after hb)
            clear a0 a1 b0 b1
            clear hb
            obtain ⟨a0, a1, b0, b1⟩ := img4 HK.out
            go_wp2_with fail
            replace HK : Hid (Kx none w w4.drew [(w.heap.size, .cells #[.slice A n c, .int .i64 d1] 24 (0, 0)), (w.heap.size + 1, .cells #[.slice B m k, .int .i64 d2] 24 (0, 0))]) := Lib.hid HK.out.drew
            refine wp_region_held_drew (S := (fun W => W.cell? ⟨w.heap.size, 0, none⟩ = some (.slice A n c) ∧ W.cell? ⟨w.heap.size, 1, none⟩ = some (.int .i64 d1) ∧ W.cell? ⟨w.heap.size + 1, 0, none⟩ = some (.slice B m k) ∧ W.cell? ⟨w.heap.size + 1, 1, none⟩ = some (.int .i64 d2))) (by kernel_rfl) ?hsx1 (fun hH => ?restx1)
            case hsx1 => (try dsimp only); with_reducible exact img4 HK.out
            refine wpAnyH_take (i := 0) (v := ?vx2) (by exact op_at rfl) (by kernel_rfl) (by kernel_rfl) (by kernel_rfl) (by exact fun _ _ _ h => h) (Or.inl ⟨by rfl, ?hyx2⟩) hH ?restx2
            case hyx2 => (intro w' hSw; (try dsimp only at hSw); go_simp <;> with_reducible rfl)
            (try simp only [Act.put, List.setIfInBounds_toArray, List.set_cons_zero, List.set_cons_succ])
            refine wpAnyH_take (i := 1) (v := ?vx3) (by exact op_at rfl) (by kernel_rfl) (by kernel_rfl) (by kernel_rfl) (by exact fun _ _ _ h => h) (Or.inl ⟨by rfl, ?hyx3⟩) hH ?restx3
            case hyx3 => (intro w' hSw; (try dsimp only at hSw); go_simp <;> with_reducible rfl)
            (try simp only [Act.put, List.setIfInBounds_toArray, List.set_cons_zero, List.set_cons_succ])
            refine wpAnyH_take (i := 2) (v := ?vx4) (by exact op_at rfl) (by kernel_rfl) (by kernel_rfl) (by kernel_rfl) (by exact fun _ _ _ h => h) (Or.inl ⟨by rfl, ?hyx4⟩) hH ?restx4
            case hyx4 => (intro w' hSw; (try dsimp only at hSw); go_simp <;> with_reducible rfl)
            (try simp only [Act.put, List.setIfInBounds_toArray, List.set_cons_zero, List.set_cons_succ])
            refine wpAnyH_take (i := 3) (v := ?vx5) (by exact op_at rfl) (by kernel_rfl) (by kernel_rfl) (by kernel_rfl) (by exact fun _ _ _ h => h) (Or.inl ⟨by rfl, ?hyx5⟩) hH ?restx5
            case hyx5 => (intro w' hSw; (try dsimp only at hSw); go_simp <;> with_reducible rfl)
            (try simp only [Act.put, List.setIfInBounds_toArray, List.set_cons_zero, List.set_cons_succ])
            refine wpAnyH_take (i := 4) (v := ?vx6) (by exact op_at rfl) (by kernel_rfl) (by kernel_rfl) (by kernel_rfl) (by exact fun _ _ _ h => h) (Or.inl ⟨by rfl, ?hyx6⟩) hH ?restx6
            case hyx6 => (intro w' hSw; (try dsimp only at hSw); go_simp <;> with_reducible rfl)
            (try simp only [Act.put, List.setIfInBounds_toArray, List.set_cons_zero, List.set_cons_succ])
            refine wpAnyH_take (i := 5) (v := ?vx7) (by exact op_at rfl) (by kernel_rfl) (by kernel_rfl) (by kernel_rfl) (by exact fun _ _ _ h => h) (Or.inl ⟨by rfl, ?hyx7⟩) hH ?restx7
            case hyx7 => (intro w' hSw; (try dsimp only at hSw); go_simp <;> with_reducible rfl)
            (try simp only [Act.put, List.setIfInBounds_toArray, List.set_cons_zero, List.set_cons_succ])
            refine wpAnyH_take (i := 6) (v := ?vx8) (by exact op_at rfl) (by kernel_rfl) (by kernel_rfl) (by kernel_rfl) (by exact fun _ _ _ h => h) (Or.inl ⟨by rfl, ?hyx8⟩) hH ?restx8
            case hyx8 => (intro w' hSw; (try dsimp only at hSw); go_simp <;> with_reducible rfl)
            (try simp only [Act.put, List.setIfInBounds_toArray, List.set_cons_zero, List.set_cons_succ])
            refine wpAnyH_take (i := 7) (v := ?vx9) (by exact op_at rfl) (by kernel_rfl) (by kernel_rfl) (by kernel_rfl) (by exact fun _ _ _ h => h) (Or.inl ⟨by rfl, ?hyx9⟩) hH ?restx9
            case hyx9 => (intro w' hSw; (try dsimp only at hSw); go_simp <;> with_reducible rfl)
            (try simp only [Act.put, List.setIfInBounds_toArray, List.set_cons_zero, List.set_cons_succ])
            refine wpAnyH_take (i := 8) (v := ?vx10) (by exact op_at rfl) (by kernel_rfl) (by kernel_rfl) (by kernel_rfl) (by exact fun _ _ _ h => h) (Or.inl ⟨by rfl, ?hyx10⟩) hH ?restx10
            case hyx10 => (intro w' hSw; (try dsimp only at hSw); go_simp <;> with_reducible rfl)
            (try simp only [Act.put, List.setIfInBounds_toArray, List.set_cons_zero, List.set_cons_succ])
            refine wpAnyH_take (i := 9) (v := ?vx11) (by exact op_at rfl) (by kernel_rfl) (by kernel_rfl) (by kernel_rfl) (by exact fun _ _ _ h => h) (Or.inl ⟨by rfl, ?hyx11⟩) hH ?restx11
            case hyx11 => (intro w' hSw; (try dsimp only at hSw); go_simp <;> with_reducible rfl)
            (try simp only [Act.put, List.setIfInBounds_toArray, List.set_cons_zero, List.set_cons_succ])
            refine wpAnyH_take (i := 10) (v := ?vx12) (by exact op_at rfl) (by kernel_rfl) (by kernel_rfl) (by kernel_rfl) (by exact fun _ _ _ h => h) (Or.inl ⟨by rfl, ?hyx12⟩) hH ?restx12
            case hyx12 => (intro w' hSw; (try dsimp only at hSw); go_simp <;> with_reducible rfl)
            (try simp only [Act.put, List.setIfInBounds_toArray, List.set_cons_zero, List.set_cons_succ])
            refine wpAnyH_take (i := 11) (v := ?vx13) (by exact op_at rfl) (by kernel_rfl) (by kernel_rfl) (by kernel_rfl) (by exact fun _ _ _ h => h) (Or.inl ⟨by rfl, ?hyx13⟩) hH ?restx13
            case hyx13 => (intro w' hSw; (try dsimp only at hSw); go_simp <;> with_reducible rfl)
            (try simp only [Act.put, List.setIfInBounds_toArray, List.set_cons_zero, List.set_cons_succ])
            refine wpAnyH_take (i := 12) (v := ?vx14) (by exact op_at rfl) (by kernel_rfl) (by kernel_rfl) (by kernel_rfl) (by exact fun _ _ _ h => h) (Or.inl ⟨by rfl, ?hyx14⟩) hH ?restx14
            case hyx14 => (intro w' hSw; (try dsimp only at hSw); go_simp <;> with_reducible rfl)
            (try simp only [Act.put, List.setIfInBounds_toArray, List.set_cons_zero, List.set_cons_succ])
            refine wpAnyH_take (i := 13) (v := undef) (by exact op_at rfl) (by kernel_rfl) (by kernel_rfl) (by kernel_rfl) (by exact fun _ _ _ h => h) (Or.inr ⟨by rfl, rfl⟩) hH ?restx15
            (try simp only [Act.put, List.setIfInBounds_toArray, List.set_cons_zero, List.set_cons_succ])
            refine wpAnyH_take (i := 14) (v := undef) (by exact op_at rfl) (by kernel_rfl) (by kernel_rfl) (by kernel_rfl) (by exact fun _ _ _ h => h) (Or.inr ⟨by rfl, rfl⟩) hH ?restx16
            (try simp only [Act.put, List.setIfInBounds_toArray, List.set_cons_zero, List.set_cons_succ])
            refine wpAnyH_take (i := 15) (v := undef) (by exact op_at rfl) (by kernel_rfl) (by kernel_rfl) (by kernel_rfl) (by exact fun _ _ _ h => h) (Or.inr ⟨by rfl, rfl⟩) hH ?restx17
            (try simp only [Act.put, List.setIfInBounds_toArray, List.set_cons_zero, List.set_cons_succ])
            refine wpAnyH_take (i := 16) (v := undef) (by exact op_at rfl) (by kernel_rfl) (by kernel_rfl) (by kernel_rfl) (by exact fun _ _ _ h => h) (Or.inr ⟨by rfl, rfl⟩) hH ?restx18
            (try simp only [Act.put, List.setIfInBounds_toArray, List.set_cons_zero, List.set_cons_succ])
            refine wpAnyH_take (i := 17) (v := undef) (by exact op_at rfl) (by kernel_rfl) (by kernel_rfl) (by kernel_rfl) (by exact fun _ _ _ h => h) (Or.inr ⟨by rfl, rfl⟩) hH ?restx19
            (try simp only [Act.put, List.setIfInBounds_toArray, List.set_cons_zero, List.set_cons_succ])
            refine wpAnyH_take (i := 18) (v := undef) (by exact op_at rfl) (by kernel_rfl) (by kernel_rfl) (by kernel_rfl) (by exact fun _ _ _ h => h) (Or.inr ⟨by rfl, rfl⟩) hH ?restx20
            (try simp only [Act.put, List.setIfInBounds_toArray, List.set_cons_zero, List.set_cons_succ])
            refine wpAnyH_take (i := 19) (v := ?vx21) (by exact op_at rfl) (by kernel_rfl) (by kernel_rfl) (by kernel_rfl) (by exact fun _ _ _ h => h) (Or.inl ⟨by rfl, ?hyx21⟩) hH ?restx21
            case hyx21 => (intro w' hSw; (try dsimp only at hSw); go_simp <;> with_reducible rfl)
            (try simp only [Act.put, List.setIfInBounds_toArray, List.set_cons_zero, List.set_cons_succ])
            refine wpAnyH_take (i := 20) (v := ?vx22) (by exact op_at rfl) (by kernel_rfl) (by kernel_rfl) (by kernel_rfl) (by exact fun _ _ _ h => h) (Or.inl ⟨by rfl, ?hyx22⟩) hH ?restx22
            case hyx22 => (intro w' hSw; (try dsimp only at hSw); go_simp <;> with_reducible rfl)
            (try simp only [Act.put, List.setIfInBounds_toArray, List.set_cons_zero, List.set_cons_succ])
            refine wpAnyH_take (i := 21) (v := ?vx23) (by exact op_at rfl) (by kernel_rfl) (by kernel_rfl) (by kernel_rfl) (by exact fun _ _ _ h => h) (Or.inl ⟨by rfl, ?hyx23⟩) hH ?restx23
            case hyx23 => (intro w' hSw; (try dsimp only at hSw); go_simp <;> with_reducible rfl)
            (try simp only [Act.put, List.setIfInBounds_toArray, List.set_cons_zero, List.set_cons_succ])
            refine wpAnyH_ready (rs := [22]) (by kernel_rfl) (by simp) ?_
            refine AllReadyH.cons (op_at rfl) (fun K hK => ?_) AllReadyH.nil
            go_simp
            go_at_call 14
            (with_reducible refine (C5.out _ (HR.out.kx HK.out) (HS.out.kx HK.out)).mono ?_)
            rintro e w' ⟨rfl, hb⟩
            replace HK := Lib.hid (HK.out.after hb)
            clear hb
            go_simp
            refine hK.out _ _ ?hsx24 (fun hN => ?restx24)
            case hsx24 => (try dsimp only); with_reducible exact img4 HK.out
            clear hK K hH
            have hH := hN
            clear hN
            (try simp only [Act.put, List.setIfInBounds_toArray, List.set_cons_zero, List.set_cons_succ])
            refine wpAnyH_take (i := 23) (v := ?vx25) (by exact op_at rfl) (by kernel_rfl) (by kernel_rfl) (by kernel_rfl) (by exact fun _ _ _ h => h) (Or.inl ⟨by rfl, ?hyx25⟩) hH ?restx25
            case hyx25 => (intro w' hSw; (try dsimp only at hSw); go_simp <;> with_reducible rfl)
            (try simp only [Act.put, List.setIfInBounds_toArray, List.set_cons_zero, List.set_cons_succ])
            refine wpAnyH_take (i := 24) (v := ?vx26) (by exact op_at rfl) (by kernel_rfl) (by kernel_rfl) (by kernel_rfl) (by exact fun _ _ _ h => h) (Or.inl ⟨by rfl, ?hyx26⟩) hH ?restx26
            case hyx26 => (intro w' hSw; (try dsimp only at hSw); go_simp <;> with_reducible rfl)
            (try simp only [Act.put, List.setIfInBounds_toArray, List.set_cons_zero, List.set_cons_succ])
            refine wpAnyH_take (i := 25) (v := ?vx27) (by exact op_at rfl) (by kernel_rfl) (by kernel_rfl) (by kernel_rfl) (by exact fun _ _ _ h => h) (Or.inl ⟨by rfl, ?hyx27⟩) hH ?restx27
            case hyx27 => (intro w' hSw; (try dsimp only at hSw); go_simp <;> with_reducible rfl)
            (try simp only [Act.put, List.setIfInBounds_toArray, List.set_cons_zero, List.set_cons_succ])
            refine wpAnyH_done (by kernel_rfl) ?_ _
            go_wp2_with fail
            go_ret
            exact ⟨rfl, HK.out.be.plain⟩
        | false =>
          rw [h2] at c2
          have C2 := Lib.hid c2
          clear c2 hr hs hw hx
          go_enter Try.func8, Try.ntmps8
          go_wp2_with fail
          refine (awake8 _).mono ?_
          rintro e w0 ⟨rfl, hb⟩
          replace HK := Lib.hid (HK.out.after hb)
          clear hb
          obtain ⟨a0, a1, b0, b1⟩ := img4 HK.out
          go_wp2_with fail
          refine (C1.out _).mono ?_
          rintro e w1 ⟨rfl, hb⟩
          replace HK := Lib.hid (HK.out.after hb)
          clear a0 a1 b0 b1
          clear hb
          obtain ⟨a0, a1, b0, b1⟩ := img4 HK.out
          go_wp2_with fail
          refine (C2.out _).mono ?_
          rintro e w2 ⟨rfl, hb⟩
          replace HK := Lib.hid (HK.out.after hb)
          clear a0 a1 b0 b1
          clear hb
          obtain ⟨a0, a1, b0, b1⟩ := img4 HK.out
          go_wp2_with fail
          go_ret
          exact ⟨rfl, HK.out.be.plain⟩
      | false =>
        rw [h1] at c1
        have C1 := Lib.hid c1
        clear c1 hr hs hw hx c2
        go_enter Try.func8, Try.ntmps8
        go_wp2_with fail
        refine (awake8 _).mono ?_
        rintro e w0 ⟨rfl, hb⟩
        replace HK := Lib.hid (HK.out.after hb)
        clear hb
        obtain ⟨a0, a1, b0, b1⟩ := img4 HK.out
        go_wp2_with fail
        refine (C1.out _).mono ?_
        rintro e w1 ⟨rfl, hb⟩
        replace HK := Lib.hid (HK.out.after hb)
        clear a0 a1 b0 b1
        clear hb
        obtain ⟨a0, a1, b0, b1⟩ := img4 HK.out
        go_wp2_with fail
        go_ret
        exact ⟨rfl, HK.out.be.plain⟩
    · have i2 : decide ((500 : Int) < (m : Int)) = true := decide_eq_true (by omega)
      clear hr hs hw hx
      go_enter Try.func8, Try.ntmps8
      go_wp2_with fail
      refine (awake8 _).mono ?_
      rintro e w0 ⟨rfl, hb⟩
      replace HK := Lib.hid (HK.out.after hb)
      clear hb
      obtain ⟨a0, a1, b0, b1⟩ := img4 HK.out
      go_wp2_with fail
      go_ret
      exact ⟨rfl, HK.out.be.plain⟩
  · have i1 : decide ((500 : Int) < (n : Int)) = true := decide_eq_true (by omega)
    clear hr hs hw hx
    go_enter Try.func8, Try.ntmps8
    go_wp2_with fail
    refine (awake8 _).mono ?_
    rintro e w0 ⟨rfl, hb⟩
    replace HK := Lib.hid (HK.out.after hb)
    clear hb
    obtain ⟨a0, a1, b0, b1⟩ := img4 HK.out
    go_wp2_with fail
    go_ret
    exact ⟨rfl, HK.out.be.plain⟩

set_option maxRecDepth 100000 in
theorem lifted (os : Os) (started : os.Started) (H : Type) (enc : TypeId × Value → H) :
    ReturnsInHanded {} Try.checked os 8 .any (Rows.imagePrefixSpec.pre6 enc Try.prog Try.f8 Rows.imagePrefixRow.domain false) (Rows.imagePrefixSpec.post enc Try.prog Try.f8 false true false false) := by
  refine returnsInHanded_of_change (C := Try.checked) own started (by kernel_rfl) Try.func8
    (ChangeSpec.witness6 (enc := enc) (C := Try.checked) false ⟨#[], #[.agg #[.slice none 0 0, .int .i64 0], .agg #[.slice none 0 0, .int .i64 0]], []⟩ 8 (by kernel_rfl) (by kernel_rfl) (by kernel_rfl) (by kernel_rfl)) ?_
  intro W base args ds gs before hval0 hW hcnd _
  have hval : ∀ (j : Nat) t v, Try.f8.params[j]? = some t → args[j]? = some v → Value.okWide Try.prog W .any base t v := hval0
  have hW' := hW
  obtain ⟨p, q, hA0, hV, rfl, hfz, hnd⟩ := hW
  have hA : DataW.TrodAll enc Try.prog W 0 (fun _ => true) true Try.f8.params.toList args.toList ds p := hA0
  rw [Try.params8] at hA hval
  obtain ⟨v0, vs0, d0, ds0, p0, q0, hargs, rfl, rfl, h0, r0⟩ := trodAll_cons hA
  obtain ⟨v1, vs1, d1, ds1, p1, q1, rfl, rfl, rfl, h1, r1⟩ := trodAll_cons r0
  obtain ⟨rfl, rfl, rfl⟩ := trodAll_nil r1
  obtain rfl : args = #[v0, v1] := by cases args; simp_all
  obtain ⟨rfl, rfl⟩ := trodVars_none hV
  have lt0 : ∀ x ∈ p0, x.block < W.heap.size := by obtain ⟨m, hm⟩ := h0; exact DataW.trod_lt m _ _ _ hm
  obtain ⟨A0, n0, c0, l0, a0, rfl, hM0, w0⟩ := open_img (hval 0 24 v0 rfl rfl) h0
  have lt1 : ∀ x ∈ p1, x.block < W.heap.size := by obtain ⟨m, hm⟩ := h1; exact DataW.trod_lt m _ _ _ hm
  obtain ⟨A1, n1, c1, l1, a1, rfl, hM1, w1⟩ := open_img (hval 1 24 v1 rfl rfl) h1
  clear hA0 hval0
  refine (walk  W hM0 hM1).mono fun e W' ⟨he, bel⟩ => ?_
  subst he
  exact ⟨_, rfl, _, _, _, [], _, [], hW', trodAll_mk1 (shut_bool Try.underlying4 _), (trodAll_cons_mk (Below.trod laidOut (by kernel_rfl) (of_decide_eq_true (by kernel_rfl)) h0 bel lt0) (trodAll_cons_mk (Below.trod laidOut (by kernel_rfl) (of_decide_eq_true (by kernel_rfl)) h1 bel lt1) trodAll_mk0)), rfl, bel.frame _, fun h => by cases h⟩

theorem over : Rows.imagePrefixRow.holds Try.pinned (OpenSpec.ofChange Rows.imagePrefixSpec) :=
  OpenClaim.holds_of_wide 8 Try.f8 rfl rfl rfl rfl rfl rfl rfl ⟨rfl, rfl, rfl, rfl, rfl⟩ rfl rfl rfl rfl rfl (by kernel_rfl) Try.func8 (by kernel_rfl)
    (of_decide_eq_true (by kernel_rfl)) (by unfold Func.isWrapper; first | (rw [if_pos (by decide +kernel)]; kernel_rfl) | (rw [if_neg (by decide +kernel)]; exact ⟨rfl, rfl⟩))
    (fun os started H enc _ => lifted os started H enc)

/-- The statement. -/
theorem proved : Rows.ImagePrefixSaid := over

end Go.Proofs.Ytmifiadkhmglmaa.imagePrefix
