/- The law ImageCut: for every image, number and text. No condition. -/
import Derived.Test.YtmifiadkhmglmaaImgQ
import Derived.Test.YtmifiadkhmglmaaImgW
namespace Go.Proofs.Ytmifiadkhmglmaa.imageCut
open Go.ChangeShapes Go.WideShapes Go.ChangeAt Go.RowKit
open Go.ChangeMaps (open_string shut_string)
set_option linter.unusedVariables false

theorem nums_take (t : ByteArray) (k : Nat) : nums (t.extract 0 k) = (nums t).take k := by
  unfold nums
  rw [← List.map_take]
  congr 1
  simp
theorem bytes_nil_iff {t : ByteArray} (h : nums t = []) : t = ⟨#[]⟩ := by
  rw [← strOfNums_nums t, h]; rfl
theorem more_read {code : List Int} {d : Int} (hr : irt code d = true) (hw : W32s code) {more : ByteArray} (hm : ¬ more = ⟨#[]⟩) : rde (ibs code d ++ more) = 7 := by
  refine (rd_no ?_).1
  rw [show nums (ibs code d ++ more) = nums (ibs code d) ++ nums more from by simp [nums], nums_ibs hr hw, igo_more hr]
  exact decide_eq_false (fun h => hm (bytes_nil_iff h))
theorem cut_read {code : List Int} {d : Int} (hr : irt code d = true) (hw : W32s code) {k : Nat} (hk : k < (ibs code d).size) : rde ((ibs code d).extract 0 k) = 7 := by
  refine (rd_no ?_).1
  rw [nums_take, nums_ibs hr hw]
  exact igo_take hr (by rw [← size_ibs hr hw]; exact hk)
set_option maxRecDepth 100000 in
set_option maxHeartbeats 4000000 in
theorem walk {A : Option Addr} {n c : Nat} {code : List Int} {d : Int} (z : Int) (more : ByteArray) (w : World) (hM : n ≤ c ∧ c ≤ maxLen ∧ Rd w A n code ∧ W32s code) :
    Calls Try.prog 6 #[.agg #[.slice A n c, .int .i64 d], .int .i64 z, .string more] w fun e w' => e = .returned (.bool true) ∧ Below w.heap.size w w' := by
  obtain ⟨_, _, hr, hw⟩ := hM
  have hl := hr.1
  have HK := Lib.hid ((Kx.nil none w).more (.cells #[.slice A n c, .int .i64 d] 24 (0, 0)))
  have HR := Lib.hid hr
  by_cases hn : n ≤ 2000
  · have i1 : decide ((2000 : Int) < (n : Int)) = false := decide_eq_false (by omega)
    have c0 := fun (w : World) => right8_ref (A := A) (c := c) (d := d) code w hl (by omega)
    cases hi : irt code d with
    | true =>
      rw [hi] at c0
      have C0 := Lib.hid c0
      clear c0
      by_cases hm : more.size ≤ 100
      · have i2 : decide ((100 : Int) < (more.size : Int)) = false := decide_eq_false (by omega)
        have hS := put_read hi hw
        have c1 := fun (w : World) (h : Rd w A n code) => put8 (c := c) (d := d) w h (by omega)
        rw [show pts code d = ibs code d from by unfold pts; rw [hi]; rfl, show pte code d = 0 from by unfold pte; rw [hi]; rfl] at c1
        have c2 := fun w => read8_code (ibs code d ++ more) w (by rw [ByteArray.size_append, hS.1]; omega)
        have c3 := fun (k : Nat) (h : k < (ibs code d).size) (w : World) => read8_code ((ibs code d).extract 0 k) w (by rw [ByteArray.size_extract]; omega)
        have c3 := fun (k : Nat) (h : k < (ibs code d).size) (w : World) => (cut_read hi hw h) ▸ c3 k h w
        have e2 : rde (ibs code d ++ more) = if more = ⟨#[]⟩ then 0 else 7 := by
          by_cases h : more = ⟨#[]⟩
          · rw [if_pos h, h]
            have : ibs code d ++ (⟨#[]⟩ : ByteArray) = ibs code d := by apply ByteArray.ext; simp
            rw [this, hS.2.1]
          · rw [if_neg h, more_read hi hw h]
        have hq := hS.1
        obtain ⟨S, hSS⟩ : ∃ S, ibs code d = S := ⟨_, rfl⟩
        rw [hSS] at c1 c2 c3 e2 hq
        have n1 : ¬ 9223372036854775807 < S.size + more.size := by omega
        have hb : ∃ b : Bool, (more.toList == []) = b ∧ rde (S ++ more) = if b then 0 else 7 := by
          refine ⟨_, rfl, ?_⟩
          rw [e2]
          by_cases h : more = ⟨#[]⟩
          · subst h
            rw [if_pos rfl, if_pos (show ((⟨#[]⟩ : ByteArray).toList == []) = true from by decide +kernel)]
          · have : (more.toList == []) = false := by
              rw [ByteArray.toList_eq, beq_eq_false_iff_ne]
              intro h2
              apply h
              apply ByteArray.ext
              apply Array.toList_inj.1
              simpa using h2
            rw [this, if_neg h]; rfl
        obtain ⟨b, hb1, hb2⟩ := hb
        rw [hb2] at c2
        have C1 := Lib.hid c1
        have C2 := Lib.hid c2
        have C3 := Lib.hid c3
        have HQ := Lib.hid hq
        clear c1 c2 c3 hS hSS hi hw hr e2 hb2 hq hm hn hl
        cases b
        all_goals
          by_cases h1 : z < 0
          · have i3 : decide (z < 0) = true := decide_eq_true h1
            go_enter Try.func6, Try.ntmps6
            go_wp2_with fail
            refine (awake8 _).mono ?_
            rintro e w0 ⟨rfl, hb⟩
            replace HK := Lib.hid (HK.out.after hb)
            clear hb
            obtain ⟨a0, a1, _⟩ := cells2 (HK.out.at 0 rfl)
            go_wp2_with fail
            refine (C0.out _).mono ?_
            rintro e w1 ⟨rfl, hb⟩
            replace HK := Lib.hid (HK.out.after hb)
            clear a0 a1
            clear hb
            obtain ⟨a0, a1, _⟩ := cells2 (HK.out.at 0 rfl)
            go_wp2_with fail
            refine (C1.out _ (HR.out.kx HK.out)).mono ?_
            rintro e w2 ⟨rfl, hb⟩
            replace HK := Lib.hid (HK.out.after hb)
            clear a0 a1
            clear hb
            go_wp2_with fail
            refine (C2.out _).mono ?_
            rintro e w3 ⟨v3, rfl, hi3, hb⟩
            obtain ⟨A3, n3, k3, rfl, hr3, _, _⟩ := hi3
            replace HK := Lib.hid (HK.out.after hb)
            clear hb hr3
            go_wp2_with fail
            go_ret
            exact ⟨rfl, (HK.out.more (.cells #[.slice A3 n3 k3, .int .i64 (rdd (S ++ more))] 24 (0, 0))).be.plain⟩
          · have i3 : decide (z < 0) = false := decide_eq_false h1
            by_cases h2 : (S.size : Int) ≤ z
            · have i4 : decide ((S.size : Int) ≤ z) = true := decide_eq_true h2
              go_enter Try.func6, Try.ntmps6
              go_wp2_with fail
              refine (awake8 _).mono ?_
              rintro e w0 ⟨rfl, hb⟩
              replace HK := Lib.hid (HK.out.after hb)
              clear hb
              obtain ⟨a0, a1, _⟩ := cells2 (HK.out.at 0 rfl)
              go_wp2_with fail
              refine (C0.out _).mono ?_
              rintro e w1 ⟨rfl, hb⟩
              replace HK := Lib.hid (HK.out.after hb)
              clear a0 a1
              clear hb
              obtain ⟨a0, a1, _⟩ := cells2 (HK.out.at 0 rfl)
              go_wp2_with fail
              refine (C1.out _ (HR.out.kx HK.out)).mono ?_
              rintro e w2 ⟨rfl, hb⟩
              replace HK := Lib.hid (HK.out.after hb)
              clear a0 a1
              clear hb
              go_wp2_with fail
              refine (C2.out _).mono ?_
              rintro e w3 ⟨v3, rfl, hi3, hb⟩
              obtain ⟨A3, n3, k3, rfl, hr3, _, _⟩ := hi3
              replace HK := Lib.hid (HK.out.after hb)
              clear hb hr3
              go_wp2_with fail
              go_ret
              exact ⟨rfl, (HK.out.more (.cells #[.slice A3 n3 k3, .int .i64 (rdd (S ++ more))] 24 (0, 0))).be.plain⟩
            · have i4 : decide ((S.size : Int) ≤ z) = false := decide_eq_false h2
              obtain ⟨k, rfl⟩ : ∃ k : Nat, z = (k : Int) := ⟨z.toNat, by omega⟩
              have hk : k < S.size := by omega
              have hk2 : k ≤ S.size := by omega
              have hk3 : (0 : Int) ≤ (k : Int) := by omega
              have hk4 : (k : Int) ≤ (S.size : Int) := by omega
              have c4 := fun w => C3.out k hk w
              have C4 := Lib.hid c4
              clear c4 C3 h1 h2
              go_enter Try.func6, Try.ntmps6
              go_wp2_with fail
              refine (awake8 _).mono ?_
              rintro e w0 ⟨rfl, hb⟩
              replace HK := Lib.hid (HK.out.after hb)
              clear hb
              obtain ⟨a0, a1, _⟩ := cells2 (HK.out.at 0 rfl)
              go_wp2_with fail
              refine (C0.out _).mono ?_
              rintro e w1 ⟨rfl, hb⟩
              replace HK := Lib.hid (HK.out.after hb)
              clear a0 a1
              clear hb
              obtain ⟨a0, a1, _⟩ := cells2 (HK.out.at 0 rfl)
              go_wp2_with fail
              refine (C1.out _ (HR.out.kx HK.out)).mono ?_
              rintro e w2 ⟨rfl, hb⟩
              replace HK := Lib.hid (HK.out.after hb)
              clear a0 a1
              clear hb
              go_wp2_with fail
              refine (C2.out _).mono ?_
              rintro e w3 ⟨v3, rfl, hi3, hb⟩
              obtain ⟨A3, n3, k3, rfl, hr3, _, _⟩ := hi3
              replace HK := Lib.hid (HK.out.after hb)
              clear hb hr3
              go_wp2_with fail
              refine (C4.out _).mono ?_
              rintro e w4 ⟨v4, rfl, hi4, hb⟩
              obtain ⟨A4, n4, k4, rfl, hr4, _, _⟩ := hi4
              replace HK := Lib.hid ((HK.out.more (.cells #[.slice A3 n3 k3, .int .i64 (rdd (S ++ more))] 24 (0, 0))).after hb)
              clear hb hr4
              go_wp2_with fail
              go_ret
              exact ⟨rfl, (HK.out.more (.cells #[.slice A4 n4 k4, .int .i64 (rdd (S.extract 0 k))] 24 (0, 0))).be.plain⟩
      · have i2 : decide ((100 : Int) < (more.size : Int)) = true := decide_eq_true (by omega)
        clear hw hr
        go_enter Try.func6, Try.ntmps6
        go_wp2_with fail
        refine (awake8 _).mono ?_
        rintro e w0 ⟨rfl, hb⟩
        replace HK := Lib.hid (HK.out.after hb)
        clear hb
        obtain ⟨a0, a1, _⟩ := cells2 (HK.out.at 0 rfl)
        go_wp2_with fail
        refine (C0.out _).mono ?_
        rintro e w1 ⟨rfl, hb⟩
        replace HK := Lib.hid (HK.out.after hb)
        clear a0 a1
        clear hb
        obtain ⟨a0, a1, _⟩ := cells2 (HK.out.at 0 rfl)
        go_wp2_with fail
        go_ret
        exact ⟨rfl, HK.out.be.plain⟩
    | false =>
      rw [hi] at c0
      have C0 := Lib.hid c0
      clear c0 hw hr
      go_enter Try.func6, Try.ntmps6
      go_wp2_with fail
      refine (awake8 _).mono ?_
      rintro e w0 ⟨rfl, hb⟩
      replace HK := Lib.hid (HK.out.after hb)
      clear hb
      obtain ⟨a0, a1, _⟩ := cells2 (HK.out.at 0 rfl)
      go_wp2_with fail
      refine (C0.out _).mono ?_
      rintro e w1 ⟨rfl, hb⟩
      replace HK := Lib.hid (HK.out.after hb)
      clear a0 a1
      clear hb
      obtain ⟨a0, a1, _⟩ := cells2 (HK.out.at 0 rfl)
      go_wp2_with fail
      go_ret
      exact ⟨rfl, HK.out.be.plain⟩
  · have i1 : decide ((2000 : Int) < (n : Int)) = true := decide_eq_true (by omega)
    clear hw hr
    go_enter Try.func6, Try.ntmps6
    go_wp2_with fail
    refine (awake8 _).mono ?_
    rintro e w0 ⟨rfl, hb⟩
    replace HK := Lib.hid (HK.out.after hb)
    clear hb
    obtain ⟨a0, a1, _⟩ := cells2 (HK.out.at 0 rfl)
    go_wp2_with fail
    go_ret
    exact ⟨rfl, HK.out.be.plain⟩

set_option maxRecDepth 100000 in
theorem lifted (os : Os) (started : os.Started) (H : Type) (enc : TypeId × Value → H) :
    ReturnsInHanded {} Try.checked os 6 .any (Rows.imageCutSpec.pre6 enc Try.prog Try.f6 Rows.imageCutRow.domain false) (Rows.imageCutSpec.post enc Try.prog Try.f6 false true false false) := by
  refine returnsInHanded_of_change (C := Try.checked) own started (by kernel_rfl) Try.func6
    (ChangeSpec.witness6 (enc := enc) (C := Try.checked) false ⟨#[], #[.agg #[.slice none 0 0, .int .i64 0], .int .i64 0, .string ByteArray.empty], []⟩ 8 (by kernel_rfl) (by kernel_rfl) (by kernel_rfl) (by kernel_rfl)) ?_
  intro W base args ds gs before hval0 hW hcnd _
  have hval : ∀ (j : Nat) t v, Try.f6.params[j]? = some t → args[j]? = some v → Value.okWide Try.prog W .any base t v := hval0
  have hW' := hW
  obtain ⟨p, q, hA0, hV, rfl, hfz, hnd⟩ := hW
  have hA : DataW.TrodAll enc Try.prog W 0 (fun _ => true) true Try.f6.params.toList args.toList ds p := hA0
  rw [Try.params6] at hA hval
  obtain ⟨v0, vs0, d0, ds0, p0, q0, hargs, rfl, rfl, h0, r0⟩ := trodAll_cons hA
  obtain ⟨v1, vs1, d1, ds1, p1, q1, rfl, rfl, rfl, h1, r1⟩ := trodAll_cons r0
  obtain ⟨v2, vs2, d2, ds2, p2, q2, rfl, rfl, rfl, h2, r2⟩ := trodAll_cons r1
  obtain ⟨rfl, rfl, rfl⟩ := trodAll_nil r2
  obtain rfl : args = #[v0, v1, v2] := by cases args; simp_all
  obtain ⟨rfl, rfl⟩ := trodVars_none hV
  have lt0 : ∀ x ∈ p0, x.block < W.heap.size := by obtain ⟨m, hm⟩ := h0; exact DataW.trod_lt m _ _ _ hm
  obtain ⟨A0, n0, c0, l0, a0, rfl, hM0, w0⟩ := open_img (hval 0 24 v0 rfl rfl) h0
  have lt1 : ∀ x ∈ p1, x.block < W.heap.size := by obtain ⟨m, hm⟩ := h1; exact DataW.trod_lt m _ _ _ hm
  have k1 := h1
  obtain ⟨a1, rfl, _, _, w1⟩ := open_int Try.underlying3 (hval 1 3 v1 rfl rfl) k1
  have lt2 : ∀ x ∈ p2, x.block < W.heap.size := by obtain ⟨m, hm⟩ := h2; exact DataW.trod_lt m _ _ _ hm
  have k2 := h2
  obtain ⟨a2, rfl, _, _, w2⟩ := open_string Try.underlying9 (hval 2 9 v2 rfl rfl) k2
  clear hA0 hval0
  refine (walk a1 a2 W hM0).mono fun e W' ⟨he, bel⟩ => ?_
  subst he
  exact ⟨_, rfl, _, _, _, [], _, [], hW', trodAll_mk1 (shut_bool Try.underlying4 _), (trodAll_cons_mk (Below.trod laidOut (by kernel_rfl) (of_decide_eq_true (by kernel_rfl)) h0 bel lt0) (trodAll_cons_mk (Below.trod laidOut (by kernel_rfl) (of_decide_eq_true (by kernel_rfl)) h1 bel lt1) (trodAll_cons_mk (Below.trod laidOut (by kernel_rfl) (of_decide_eq_true (by kernel_rfl)) h2 bel lt2) trodAll_mk0))), rfl, bel.frame _, fun h => by cases h⟩

theorem over : Rows.imageCutRow.holds Try.pinned (OpenSpec.ofChange Rows.imageCutSpec) :=
  OpenClaim.holds_of_wide 6 Try.f6 rfl rfl rfl rfl rfl rfl rfl ⟨rfl, rfl, rfl, rfl, rfl⟩ rfl rfl rfl rfl rfl (by kernel_rfl) Try.func6 (by kernel_rfl)
    (of_decide_eq_true (by kernel_rfl)) (by unfold Func.isWrapper; first | (rw [if_pos (by decide +kernel)]; kernel_rfl) | (rw [if_neg (by decide +kernel)]; exact ⟨rfl, rfl⟩))
    (fun os started H enc _ => lifted os started H enc)

/-- The statement. -/
theorem proved : Rows.ImageCutSaid := over

end Go.Proofs.Ytmifiadkhmglmaa.imageCut
