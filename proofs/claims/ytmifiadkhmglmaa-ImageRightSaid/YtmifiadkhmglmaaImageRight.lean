/- The law ImageRight: for every two images. No condition. -/
import Derived.Test.YtmifiadkhmglmaaImgQ
import Derived.Test.YtmifiadkhmglmaaImgW
namespace Go.Proofs.Ytmifiadkhmglmaa.imageRight
open Go.ChangeShapes Go.WideShapes Go.ChangeAt Go.RowKit
open Go.ChangeMaps (open_string shut_string)
set_option linter.unusedVariables false

theorem img4 {w W : World} {a b : Nat} {t : TypeId} {u0 u1 v0 v1 : Value} {bs : List (Nat × Obj)} (h : Kx none w W ((a, .cells #[u0, u1] t (0, 0)) :: (b, .cells #[v0, v1] t (0, 0)) :: bs)) :
    W.cell? ⟨a, 0, none⟩ = some u0 ∧ W.cell? ⟨a, 1, none⟩ = some u1 ∧ W.cell? ⟨b, 0, none⟩ = some v0 ∧ W.cell? ⟨b, 1, none⟩ = some v1 :=
  ⟨(cells2 (h.at 0 rfl)).1, (cells2 (h.at 0 rfl)).2.1, (cells2 (h.at 1 rfl)).1, (cells2 (h.at 1 rfl)).2.1⟩
set_option maxRecDepth 100000 in
set_option maxHeartbeats 4000000 in
theorem walk {A B : Option Addr} {n c m k : Nat} {k1 k2 : List Int} {d1 d2 : Int} (w : World) (hM : n ≤ c ∧ c ≤ maxLen ∧ Rd w A n k1 ∧ W32s k1) (hN : m ≤ k ∧ k ≤ maxLen ∧ Rd w B m k2 ∧ W32s k2) :
    Calls Try.prog 3 #[.agg #[.slice A n c, .int .i64 d1], .agg #[.slice B m k, .int .i64 d2]] w fun e w' => e = .returned (.bool true) ∧ Below w.heap.size w w' := by
  obtain ⟨_, _, hr, _⟩ := hM
  obtain ⟨_, _, hs, _⟩ := hN
  have hl := hr.1
  have hl2 := hs.1
  have HK := Lib.hid (((Kx.nil none w).more (.cells #[.slice A n c, .int .i64 d1] 24 (0, 0))).add (w.heap.size + 1) (by simp) (.cells #[.slice B m k, .int .i64 d2] 24 (0, 0)))
  have HR := Lib.hid hr
  have HS := Lib.hid hs
  by_cases hn : n ≤ 20000
  · have i1 : decide ((20000 : Int) < (n : Int)) = false := decide_eq_false (by omega)
    by_cases hm : m ≤ 20000
    · have i2 : decide ((20000 : Int) < (m : Int)) = false := decide_eq_false (by omega)
      have c1 := fun (w : World) => right8 (A := A) (c := c) (d := d1) k1 w hl (by omega)
      have c2 := fun (w : World) => right8_ref (A := A) (c := c) (d := d1) k1 w hl (by omega)
      have c3 := fun (w : World) (h : Rd w A n k1) (h2 : Rd w B m k2) => same8 (c := c) (e := k) (d1 := d1) (d2 := d2) w h h2 (by omega) (by omega)
      have c4 := fun (w : World) (h : Rd w A n k1) (h2 : Rd w B m k2) => same8_ref (c := c) (e := k) (d1 := d1) (d2 := d2) w h h2 (by omega) (by omega)
      obtain ⟨r, er⟩ : ∃ r, irt k1 d1 = r := ⟨_, rfl⟩
      obtain ⟨q, eq⟩ : ∃ q, decide (k1 = k2 ∧ d1 = d2) = q := ⟨_, rfl⟩
      rw [er] at c1 c2
      rw [eq] at c3 c4
      have e1 : (r == r) = true := by simp
      have e2 : (q == q) = true := by simp
      have C1 := Lib.hid c1
      have C2 := Lib.hid c2
      have C3 := Lib.hid c3
      have C4 := Lib.hid c4
      clear c1 c2 c3 c4 er eq hr hs
      go_enter Try.func3, Try.ntmps3
      go_wp2_with fail
      refine (awake8 _).mono ?_
      rintro e w0 ⟨rfl, hb⟩
      replace HK := Lib.hid (HK.out.after hb)
      clear hb
      obtain ⟨a0, a1, b0, b1⟩ := img4 HK.out
      go_wp2_with fail
      go_region_held3 (fun W => W.cell? ⟨w.heap.size, 0, none⟩ = some (.slice A n c) ∧ W.cell? ⟨w.heap.size, 1, none⟩ = some (.int .i64 d1) ∧ W.cell? ⟨w.heap.size + 1, 0, none⟩ = some (.slice B m k) ∧ W.cell? ⟨w.heap.size + 1, 1, none⟩ = some (.int .i64 d2))
        (first | exact img4 HK.out | exact img4 HK.out.drew)
        (first
          | (go_at_call 11; with_reducible refine (C1.out _).mono ?_; rintro e w' ⟨rfl, hb⟩; replace HK := Lib.hid (HK.out.drew.after hb); clear hb)
          | (go_at_call 11; with_reducible refine (C1.out _).mono ?_; rintro e w' ⟨rfl, hb⟩; replace HK := Lib.hid (HK.out.after hb); clear hb)
          | (go_at_call 12; with_reducible refine (C2.out _).mono ?_; rintro e w' ⟨rfl, hb⟩; replace HK := Lib.hid (HK.out.after hb); clear hb)
          | (go_at_call 13; with_reducible refine (C3.out _ (HR.out.kx HK.out) (HS.out.kx HK.out)).mono ?_; rintro e w' ⟨rfl, hb⟩; replace HK := Lib.hid (HK.out.after hb); clear hb)
          | (go_at_call 14; with_reducible refine (C4.out _ (HR.out.kx HK.out) (HS.out.kx HK.out)).mono ?_; rintro e w' ⟨rfl, hb⟩; replace HK := Lib.hid (HK.out.after hb); clear hb))
      all_goals
        go_wp2_with fail
        go_ret
        exact ⟨rfl, HK.out.be.plain⟩
    · have i2 : decide ((20000 : Int) < (m : Int)) = true := decide_eq_true (by omega)
      clear hr hs
      go_enter Try.func3, Try.ntmps3
      go_wp2_with fail
      refine (awake8 _).mono ?_
      rintro e w0 ⟨rfl, hb⟩
      replace HK := Lib.hid (HK.out.after hb)
      clear hb
      obtain ⟨a0, a1, b0, b1⟩ := img4 HK.out
      go_wp2_with fail
      go_ret
      exact ⟨rfl, HK.out.be.plain⟩
  · have i1 : decide ((20000 : Int) < (n : Int)) = true := decide_eq_true (by omega)
    clear hr hs
    go_enter Try.func3, Try.ntmps3
    go_wp2_with fail
    refine (awake8 _).mono ?_
    rintro e w0 ⟨rfl, hb⟩
    replace HK := Lib.hid (HK.out.after hb)
    clear hb
    obtain ⟨a0, a1, b0, b1⟩ := img4 HK.out
    go_wp2_with fail
    go_ret
    exact ⟨rfl, HK.out.be.plain⟩

set_option maxRecDepth 100000 in
theorem lifted (os : Os) (started : os.Started) (H : Type) (enc : TypeId × Value → H) :
    ReturnsInHanded {} Try.checked os 3 .any (Rows.imageRightSpec.pre6 enc Try.prog Try.f3 Rows.imageRightRow.domain false) (Rows.imageRightSpec.post enc Try.prog Try.f3 false true false false) := by
  refine returnsInHanded_of_change (C := Try.checked) own started (by kernel_rfl) Try.func3
    (ChangeSpec.witness6 (enc := enc) (C := Try.checked) false ⟨#[], #[.agg #[.slice none 0 0, .int .i64 0], .agg #[.slice none 0 0, .int .i64 0]], []⟩ 8 (by kernel_rfl) (by kernel_rfl) (by kernel_rfl) (by kernel_rfl)) ?_
  intro W base args ds gs before hval0 hW hcnd _
  have hval : ∀ (j : Nat) t v, Try.f3.params[j]? = some t → args[j]? = some v → Value.okWide Try.prog W .any base t v := hval0
  have hW' := hW
  obtain ⟨p, q, hA0, hV, rfl, hfz, hnd⟩ := hW
  have hA : DataW.TrodAll enc Try.prog W 0 (fun _ => true) true Try.f3.params.toList args.toList ds p := hA0
  rw [Try.params3] at hA hval
  obtain ⟨v0, vs0, d0, ds0, p0, q0, hargs, rfl, rfl, h0, r0⟩ := trodAll_cons hA
  obtain ⟨v1, vs1, d1, ds1, p1, q1, rfl, rfl, rfl, h1, r1⟩ := trodAll_cons r0
  obtain ⟨rfl, rfl, rfl⟩ := trodAll_nil r1
  obtain rfl : args = #[v0, v1] := by cases args; simp_all
  obtain ⟨rfl, rfl⟩ := trodVars_none hV
  have lt0 : ∀ x ∈ p0, x.block < W.heap.size := by obtain ⟨m, hm⟩ := h0; exact DataW.trod_lt m _ _ _ hm
  obtain ⟨A0, n0, c0, l0, a0, rfl, hM0, w0⟩ := open_img (hval 0 24 v0 rfl rfl) h0
  have lt1 : ∀ x ∈ p1, x.block < W.heap.size := by obtain ⟨m, hm⟩ := h1; exact DataW.trod_lt m _ _ _ hm
  obtain ⟨A1, n1, c1, l1, a1, rfl, hM1, w1⟩ := open_img (hval 1 24 v1 rfl rfl) h1
  clear hA0 hval0
  refine (walk  W hM0 hM1).mono fun e W' ⟨he, bel⟩ => ?_
  subst he
  exact ⟨_, rfl, _, _, _, [], _, [], hW', trodAll_mk1 (shut_bool Try.underlying4 _), (trodAll_cons_mk (Below.trod laidOut (by kernel_rfl) (of_decide_eq_true (by kernel_rfl)) h0 bel lt0) (trodAll_cons_mk (Below.trod laidOut (by kernel_rfl) (of_decide_eq_true (by kernel_rfl)) h1 bel lt1) trodAll_mk0)), rfl, bel.frame _, fun h => by cases h⟩

theorem over : Rows.imageRightRow.holds Try.pinned (OpenSpec.ofChange Rows.imageRightSpec) :=
  OpenClaim.holds_of_wide 3 Try.f3 rfl rfl rfl rfl rfl rfl rfl ⟨rfl, rfl, rfl, rfl, rfl⟩ rfl rfl rfl rfl rfl (by kernel_rfl) Try.func3 (by kernel_rfl)
    (of_decide_eq_true (by kernel_rfl)) (by unfold Func.isWrapper; first | (rw [if_pos (by decide +kernel)]; kernel_rfl) | (rw [if_neg (by decide +kernel)]; exact ⟨rfl, rfl⟩))
    (fun os started H enc _ => lifted os started H enc)

/-- The statement. -/
theorem proved : Rows.ImageRightSaid := over

end Go.Proofs.Ytmifiadkhmglmaa.imageRight
