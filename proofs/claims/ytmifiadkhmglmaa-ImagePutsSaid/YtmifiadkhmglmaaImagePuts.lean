/- The law ImagePuts: for every image. No condition. -/
import Derived.Test.YtmifiadkhmglmaaImgQ
import Derived.Test.YtmifiadkhmglmaaImgW
namespace Go.Proofs.Ytmifiadkhmglmaa.imagePuts
open Go.ChangeShapes Go.WideShapes Go.ChangeAt Go.RowKit
open Go.ChangeMaps (open_string shut_string)
set_option linter.unusedVariables false

set_option maxRecDepth 100000 in
set_option maxHeartbeats 4000000 in
theorem walk {A : Option Addr} {n c : Nat} {code : List Int} {d : Int} (w : World) (hM : n ≤ c ∧ c ≤ maxLen ∧ Rd w A n code ∧ W32s code) :
    Calls Try.prog 4 #[.agg #[.slice A n c, .int .i64 d]] w fun e w' => e = .returned (.bool true) ∧ Below w.heap.size w w' := by
  obtain ⟨_, _, hr, hw⟩ := hM
  have hl := hr.1
  have HK := Lib.hid ((Kx.nil none w).more (.cells #[.slice A n c, .int .i64 d] 24 (0, 0)))
  have HR := Lib.hid hr
  by_cases hn : n ≤ 2000
  · have i1 : decide ((2000 : Int) < (n : Int)) = false := decide_eq_false (by omega)
    have c1 := fun (w : World) (h : Rd w A n code) => put8 (c := c) (d := d) w h (by omega)
    have c2 := fun (w : World) (h : Rd w A n code) => put8_ref (c := c) (d := d) w h (by omega)
    cases hi : irt code d with
    | true =>
      have hS := put_read hi hw
      rw [show pts code d = ibs code d from by unfold pts; rw [hi]; rfl, show pte code d = 0 from by unfold pte; rw [hi]; rfl] at c1 c2
      have c3 := fun w => read8_code (ibs code d) w (by rw [hS.1]; omega)
      rw [hS.2.1, hS.2.2.1, hS.2.2.2] at c3
      have c4 := fun (w : World) (B : Option Addr) (e : Nat) (h : Rd w B n code) (h2 : Rd w A n code) => same8_ref (A := B) (B := A) (c := e) (e := c) (d1 := d) (d2 := d) w h h2 (by omega) (by omega)
      rw [decide_eq_true (show code = code ∧ d = d from ⟨rfl, rfl⟩)] at c4
      obtain ⟨S, hSS⟩ : ∃ S, ibs code d = S := ⟨_, rfl⟩
      rw [hSS] at c1 c2 c3
      have e1 : (S.toList == S.toList) = true := by simp
      have C1 := Lib.hid c1
      have C2 := Lib.hid c2
      have C3 := Lib.hid c3
      have C4 := Lib.hid c4
      clear c1 c2 c3 c4 hS hSS hi hw hr
      go_enter Try.func4, Try.ntmps4
      go_wp2_with fail
      refine (awake8 _).mono ?_
      rintro e w0 ⟨rfl, hb⟩
      replace HK := Lib.hid (HK.out.after hb)
      clear hb
      obtain ⟨a0, a1, _⟩ := cells2 (HK.out.at 0 rfl)
      go_wp2_with fail
      refine (C1.out _ (HR.out.kx HK.out)).mono ?_
      rintro e w1 ⟨rfl, hb⟩
      replace HK := Lib.hid (HK.out.after hb)
      clear a0 a1
      clear hb
      obtain ⟨a0, a1, _⟩ := cells2 (HK.out.at 0 rfl)
      go_wp2_with fail
      refine (C2.out _ (HR.out.kx HK.out)).mono ?_
      rintro e w2 ⟨rfl, hb⟩
      replace HK := Lib.hid (HK.out.after hb)
      clear a0 a1
      clear hb
      go_wp2_with fail
      refine (C3.out _).mono ?_
      rintro e w3 ⟨v3, rfl, hi3, hb⟩
      obtain ⟨A3, n3, k3, rfl, hr3, _, _⟩ := hi3
      obtain rfl : n = n3 := by rw [← hr3.1]; exact hl.symm
      replace HK := Lib.hid ((HK.out.after hb).more (.cells #[.slice A3 n k3, .int .i64 d] 24 (0, 0)))
      replace hr3 := Lib.hid (hr3.below ((Below.refl _ _).alloc (Nat.le_refl _) (.cells #[.slice A3 n k3, .int .i64 d] 24 (0, 0))))
      clear hb
      obtain ⟨a0, a1, _⟩ := cells2 (HK.out.at 0 rfl)
      obtain ⟨b0, b1, _⟩ := cells2 (HK.out.at 1 rfl)
      go_wp2_with fail
      refine (C4.out _ _ _ hr3.out (HR.out.kx HK.out)).mono ?_
      rintro e w4 ⟨rfl, hb⟩
      replace HK := Lib.hid (HK.out.after hb)
      clear a0 a1 b0 b1
      clear hb
      go_wp2_with fail
      go_ret
      exact ⟨rfl, HK.out.be.plain⟩
    | false =>
      rw [show pts code d = ⟨#[]⟩ from by unfold pts; rw [hi]; rfl, show pte code d = 1 from by unfold pte; rw [hi]; rfl] at c1 c2
      have hS : rde ⟨#[]⟩ = 7 ∧ rdc ⟨#[]⟩ = [] ∧ rdd ⟨#[]⟩ = 0 := rd_no (by decide)
      have c3 := fun w => read8_code ⟨#[]⟩ w (by decide)
      rw [hS.1, hS.2.1, hS.2.2] at c3
      have C1 := Lib.hid c1
      have C2 := Lib.hid c2
      have C3 := Lib.hid c3
      clear c1 c2 c3 hS hi hw hr
      go_enter Try.func4, Try.ntmps4
      go_wp2_with fail
      refine (awake8 _).mono ?_
      rintro e w0 ⟨rfl, hb⟩
      replace HK := Lib.hid (HK.out.after hb)
      clear hb
      obtain ⟨a0, a1, _⟩ := cells2 (HK.out.at 0 rfl)
      go_wp2_with fail
      refine (C1.out _ (HR.out.kx HK.out)).mono ?_
      rintro e w1 ⟨rfl, hb⟩
      replace HK := Lib.hid (HK.out.after hb)
      clear a0 a1
      clear hb
      obtain ⟨a0, a1, _⟩ := cells2 (HK.out.at 0 rfl)
      go_wp2_with fail
      refine (C2.out _ (HR.out.kx HK.out)).mono ?_
      rintro e w2 ⟨rfl, hb⟩
      replace HK := Lib.hid (HK.out.after hb)
      clear a0 a1
      clear hb
      go_wp2_with fail
      refine (C3.out _).mono ?_
      rintro e w3 ⟨v3, rfl, hi3, hb⟩
      obtain ⟨A3, n3, k3, rfl, hr3, _, _⟩ := hi3
      obtain rfl : 0 = n3 := hr3.1
      replace HK := Lib.hid ((HK.out.after hb).more (.cells #[.slice A3 0 k3, .int .i64 0] 24 (0, 0)))
      clear hb hr3
      obtain ⟨b0, b1, _⟩ := cells2 (HK.out.at 1 rfl)
      go_wp2_with fail
      go_ret
      exact ⟨rfl, HK.out.be.plain⟩
  · have i1 : decide ((2000 : Int) < (n : Int)) = true := decide_eq_true (by omega)
    clear hw hr
    go_enter Try.func4, Try.ntmps4
    go_wp2_with fail
    refine (awake8 _).mono ?_
    rintro e w0 ⟨rfl, hb⟩
    replace HK := Lib.hid (HK.out.after hb)
    clear hb
    obtain ⟨a0, a1, _⟩ := cells2 (HK.out.at 0 rfl)
    go_wp2_with fail
    go_ret
    exact ⟨rfl, HK.out.be.plain⟩

set_option maxRecDepth 100000 in
theorem lifted (os : Os) (started : os.Started) (H : Type) (enc : TypeId × Value → H) :
    ReturnsInHanded {} Try.checked os 4 .any (Rows.imagePutsSpec.pre6 enc Try.prog Try.f4 Rows.imagePutsRow.domain false) (Rows.imagePutsSpec.post enc Try.prog Try.f4 false true false false) := by
  refine returnsInHanded_of_change (C := Try.checked) own started (by kernel_rfl) Try.func4
    (ChangeSpec.witness6 (enc := enc) (C := Try.checked) false ⟨#[], #[.agg #[.slice none 0 0, .int .i64 0]], []⟩ 8 (by kernel_rfl) (by kernel_rfl) (by kernel_rfl) (by kernel_rfl)) ?_
  intro W base args ds gs before hval0 hW hcnd _
  have hval : ∀ (j : Nat) t v, Try.f4.params[j]? = some t → args[j]? = some v → Value.okWide Try.prog W .any base t v := hval0
  have hW' := hW
  obtain ⟨p, q, hA0, hV, rfl, hfz, hnd⟩ := hW
  have hA : DataW.TrodAll enc Try.prog W 0 (fun _ => true) true Try.f4.params.toList args.toList ds p := hA0
  rw [Try.params4] at hA hval
  obtain ⟨v0, vs0, d0, ds0, p0, q0, hargs, rfl, rfl, h0, r0⟩ := trodAll_cons hA
  obtain ⟨rfl, rfl, rfl⟩ := trodAll_nil r0
  obtain rfl : args = #[v0] := by cases args; simp_all
  obtain ⟨rfl, rfl⟩ := trodVars_none hV
  have lt0 : ∀ x ∈ p0, x.block < W.heap.size := by obtain ⟨m, hm⟩ := h0; exact DataW.trod_lt m _ _ _ hm
  obtain ⟨A0, n0, c0, l0, a0, rfl, hM0, w0⟩ := open_img (hval 0 24 v0 rfl rfl) h0
  clear hA0 hval0
  refine (walk  W hM0).mono fun e W' ⟨he, bel⟩ => ?_
  subst he
  exact ⟨_, rfl, _, _, _, [], _, [], hW', trodAll_mk1 (shut_bool Try.underlying4 _), (trodAll_cons_mk (Below.trod laidOut (by kernel_rfl) (of_decide_eq_true (by kernel_rfl)) h0 bel lt0) trodAll_mk0), rfl, bel.frame _, fun h => by cases h⟩

theorem over : Rows.imagePutsRow.holds Try.pinned (OpenSpec.ofChange Rows.imagePutsSpec) :=
  OpenClaim.holds_of_wide 4 Try.f4 rfl rfl rfl rfl rfl rfl rfl ⟨rfl, rfl, rfl, rfl, rfl⟩ rfl rfl rfl rfl rfl (by kernel_rfl) Try.func4 (by kernel_rfl)
    (of_decide_eq_true (by kernel_rfl)) (by unfold Func.isWrapper; first | (rw [if_pos (by decide +kernel)]; kernel_rfl) | (rw [if_neg (by decide +kernel)]; exact ⟨rfl, rfl⟩))
    (fun os started H enc _ => lifted os started H enc)

/-- The statement. -/
theorem proved : Rows.ImagePutsSaid := over

end Go.Proofs.Ytmifiadkhmglmaa.imagePuts
