/- The law WordRest: for all words a and b it returns true, and its arguments read as before. No condition. -/
import Derived.Test.YtpdgmlndkhjlgaaRows
import Derived.WalkKit
import Derived.ProofKit
import Derived.OpenShut
import Derived.Test.YtpdgmlndkhjlgaaAlive
namespace Go.Proofs.Ytpdgmlndkhjlgaa.wordRest
open Go.ChangeShapes Go.WideShapes Go.ChangeAt Go.RowKit
set_option linter.unusedVariables false      -- a walk need not use every 'w<i>' (that an integer argument fits its kind)


theorem div_q (a b q : Int) (w : World) (hq : Hid (a / b = q)) (a0 : 0 ≤ a) (a1 : a ≤ 4294967295) (hb : 1 ≤ b) :
    Calls Try.prog 11 #[.int .i64 7, .int .u32 a, .int .u32 b] w fun e w' => e = .returned (.tuple #[.int .u32 q, .int .i64 0]) ∧ w' = w := by
  rw [← hq.out]
  exact app_div a b w a0 (by omega) hb
theorem mod_r (a b r : Int) (w : World) (hr : Hid (a % b = r)) (a0 : 0 ≤ a) (hb : 1 ≤ b) :
    Calls Try.prog 11 #[.int .i64 8, .int .u32 a, .int .u32 b] w fun e w' => e = .returned (.tuple #[.int .u32 r, .int .i64 0]) ∧ w' = w := by
  rw [← hr.out]
  exact app_mod a b w a0 hb

theorem own : ownKnob Try.prog.godebug = none := by kernel_rfl

theorem walk (a0 : Int) (a1 : Int) (w0 : (Lit.int .u32 a0).wf = true) (w1 : (Lit.int .u32 a1).wf = true) (w : World) :
    Calls Try.prog 7 #[.int .u32 a0, .int .u32 a1] w fun e w' => e = .returned (.bool true) ∧ Below w.heap.size w w' := by
  obtain ⟨a00, a01⟩ := bounds_u32 w0
  obtain ⟨b00, b01⟩ := bounds_u32 w1
  clear w0 w1
  by_cases hb0 : a1 = 0
  · subst hb0
    go_enter Try.func7, Try.ntmps7
    go_wp2_with fail
    refine (alive_any _).mono ?_
    rintro e w1 ⟨rfl, hb⟩
    go_wp2_with fail
    refine (app_zero 7 _ _ (by omega)).mono ?_
    rintro e w' ⟨rfl, rfl⟩
    go_wp2_with fail
    refine (app_zero 8 _ _ (by omega)).mono ?_
    rintro e w' ⟨rfl, rfl⟩
    go_wp2
    go_ret
    exact ⟨rfl, hb⟩
  · have hb1 : 1 ≤ a1 := by omega
    have hbf : (a1 == 0) = false := by rw [beq_eq_false_iff_ne]; omega
    clear hb0
    obtain ⟨q, hq⟩ : ∃ q, a0 / a1 = q := ⟨_, rfl⟩
    obtain ⟨r, hr⟩ : ∃ r, a0 % a1 = r := ⟨_, rfl⟩
    have r0 : 0 ≤ r := by rw [← hr]; exact Int.emod_nonneg _ (by omega)
    have r1 : r < a1 := by rw [← hr]; exact Int.emod_lt_of_pos _ (by omega)
    have q0 : 0 ≤ q := by rw [← hq]; exact Int.ediv_nonneg a00 (by omega)
    have qb : q * a1 + r = a0 := by rw [← hq, ← hr, Int.mul_comm]; exact Int.mul_ediv_add_emod a0 a1
    have p0 : 0 ≤ q * a1 := Int.mul_nonneg q0 (by omega)
    have p1 : q * a1 ≤ 4294967295 := by omega
    have q1 : q ≤ 4294967295 := by rw [← hq]; exact Int.le_trans (Int.ediv_le_self a1 a00) a01
    have he : (q * a1 + r == a0) = true := by rw [beq_iff_eq]; exact qb
    have HQ := Lib.hid hq
    have HR := Lib.hid hr
    clear hq hr qb
    go_enter Try.func7, Try.ntmps7
    go_wp2_with fail
    refine (alive_any _).mono ?_
    rintro e w1 ⟨rfl, hb⟩
    go_wp2_with fail
    refine (div_q _ _ q _ HQ a00 a01 hb1).mono ?_
    rintro e w' ⟨rfl, rfl⟩
    go_wp2_with fail
    refine (mod_r _ _ r _ HR a00 hb1).mono ?_
    rintro e w' ⟨rfl, rfl⟩
    go_wp2
    go_ret
    exact ⟨rfl, hb⟩

set_option maxRecDepth 100000 in
theorem lifted (os : Os) (started : os.Started) (H : Type) (enc : TypeId × Value → H) :
    ReturnsInHanded {} Try.checked os 7 .any (Rows.wordRestSpec.pre6 enc Try.prog Try.f7 Rows.wordRestRow.domain false) (Rows.wordRestSpec.post enc Try.prog Try.f7 false true false false) := by
  refine returnsInHanded_of_change (C := Try.checked) own started (by kernel_rfl) Try.func7
    (ChangeSpec.witness6 (enc := enc) (C := Try.checked) false ⟨#[], #[.int .u32 0, .int .u32 0], []⟩ 8 (by kernel_rfl) (by kernel_rfl) (by kernel_rfl) (by kernel_rfl)) ?_
  intro W base args ds gs before hval0 hW hcnd _
  have hval : ∀ (j : Nat) t v, Try.f7.params[j]? = some t → args[j]? = some v → Value.okWide Try.prog W .any base t v := hval0
  have hW' := hW
  obtain ⟨p, q, hA0, hV, rfl, hfz, hnd⟩ := hW
  have hA : DataW.TrodAll enc Try.prog W 0 (fun _ => true) true Try.f7.params.toList args.toList ds p := hA0
  rw [Try.params7] at hA hval
  obtain ⟨v0, vs0, d0, ds0, p0, q0, hargs, rfl, rfl, h0, r0⟩ := trodAll_cons hA
  obtain ⟨v1, vs1, d1, ds1, p1, q1, rfl, rfl, rfl, h1, r1⟩ := trodAll_cons r0
  obtain ⟨rfl, rfl, rfl⟩ := trodAll_nil r1
  obtain rfl : args = #[v0, v1] := by cases args; simp_all
  obtain ⟨rfl, rfl⟩ := trodVars_none hV
  obtain ⟨a0, rfl, rfl, rfl, w0⟩ := open_int Try.underlying22 (hval 0 22 v0 rfl rfl) h0
  obtain ⟨a1, rfl, rfl, rfl, w1⟩ := open_int Try.underlying22 (hval 1 22 v1 rfl rfl) h1
  clear hA0 hval0
  simp only [List.append_nil] at hW'
  refine (walk a0 a1 w0 w1 W).mono fun e W' ⟨he, hg⟩ => ?_
  subst he
  exact ⟨_, rfl, _, _, _, [], [], [], hW', trodAll_mk1 (shut_bool Try.underlying4 _), (trodAll_cons_mk (shut_int Try.underlying22 w0) (trodAll_cons_mk (shut_int Try.underlying22 w1) trodAll_mk0)), rfl, hg.frame _, fun h => by cases h⟩

theorem over : Rows.wordRestRow.holds Try.pinned (OpenSpec.ofChange Rows.wordRestSpec) :=
  OpenClaim.holds_of_wide 7 Try.f7 rfl rfl rfl rfl rfl rfl rfl ⟨rfl, rfl, rfl, rfl, rfl⟩ rfl rfl rfl rfl rfl (by kernel_rfl) Try.func7 (by kernel_rfl)
    (of_decide_eq_true (by kernel_rfl)) (by unfold Func.isWrapper; first | (rw [if_pos (by decide +kernel)]; kernel_rfl) | (rw [if_neg (by decide +kernel)]; exact ⟨rfl, rfl⟩))
    (fun os started H enc _ => lifted os started H enc)

/-- The statement. -/
theorem proved : Rows.WordRestSaid :=
  over
end Go.Proofs.Ytpdgmlndkhjlgaa.wordRest
