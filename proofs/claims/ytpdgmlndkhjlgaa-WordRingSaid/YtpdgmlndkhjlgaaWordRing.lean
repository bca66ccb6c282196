/- The law WordRing: for all words a, b and c it returns true, and its arguments read as before. No condition. -/
import Derived.Test.YtpdgmlndkhjlgaaRows
import Derived.WalkKit
import Derived.ProofKit
import Derived.OpenShut
import Derived.Test.YtpdgmlndkhjlgaaAlive
namespace Go.Proofs.Ytpdgmlndkhjlgaa.wordRing
open Go.ChangeShapes Go.WideShapes Go.ChangeAt Go.RowKit
set_option linter.unusedVariables false      -- a walk need not use every 'w<i>' (that an integer argument fits its kind)


def U (x : Int) : Prop := 0 ≤ x ∧ x ≤ 4294967295
theorem ap_U {op a b : Int} (ha : U a) (hb : U b) : U (ap op a b) :=
  ⟨ap_nonneg op a b ha.1 hb.1, by have := ap_lt op a b ha.1 (by have := ha.2; omega) hb.1 (by have := hb.2; omega); omega⟩
theorem of_U (op a b : Int) (w : World) (ha : U a) (hb : U b) :
    Calls Try.prog 20 #[.int .i64 op, .int .u32 a, .int .u32 b] w fun e w' => e = .returned (.int .u32 (ap op a b)) ∧ w' = w :=
  of_any op a b w ha.1 (by have := ha.2; omega) hb.1 (by have := hb.2; omega)
theorem ap4 (a b : Int) : ap 4 a b = (a + b) % 4294967296 := by simp [ap]
theorem ap5 (a b : Int) : ap 5 a b = (a + -b % 4294967296) % 4294967296 := by simp [ap]
theorem ap6 (a b : Int) : ap 6 a b = a * b % 4294967296 := by simp [ap]
theorem mulmod (x y M : Int) : x % M * y % M = x * y % M := by rw [Int.mul_emod, Int.emod_emod_of_dvd _ (Int.dvd_refl M), ← Int.mul_emod]
theorem mulmod' (x y M : Int) : x * (y % M) % M = x * y % M := by rw [Int.mul_comm, mulmod, Int.mul_comm]
theorem add_comm' (a b : Int) : ap 4 b a = ap 4 a b := by rw [ap4, ap4, Int.add_comm]
theorem mul_comm' (a b : Int) : ap 6 b a = ap 6 a b := by rw [ap6, ap6, Int.mul_comm]
theorem sub_add' {a : Int} (b : Int) (ha : U a) : ap 5 (ap 4 a b) b = a := by
  have h1 := ha.1
  have h2 := ha.2
  rw [ap4, ap5]; omega
theorem add_sub' {a : Int} (b : Int) (ha : U a) : ap 4 (ap 5 a b) b = a := by
  have h1 := ha.1
  have h2 := ha.2
  rw [ap4, ap5]; omega
theorem add_assoc' (a b c : Int) : ap 4 (ap 4 a b) c = ap 4 a (ap 4 b c) := by
  simp only [ap4]; omega
theorem mul_assoc' (a b c : Int) : ap 6 (ap 6 a b) c = ap 6 a (ap 6 b c) := by
  simp only [ap6]; rw [mulmod, mulmod', Int.mul_assoc]
theorem distrib' (a b c : Int) : ap 6 (ap 4 a b) c = ap 4 (ap 6 a c) (ap 6 b c) := by
  simp only [ap6, ap4]; rw [mulmod, Int.add_mul]; omega

theorem own : ownKnob Try.prog.godebug = none := by kernel_rfl

theorem walk (a0 : Int) (a1 : Int) (a2 : Int) (w0 : (Lit.int .u32 a0).wf = true) (w1 : (Lit.int .u32 a1).wf = true) (w2 : (Lit.int .u32 a2).wf = true) (w : World) :
    Calls Try.prog 6 #[.int .u32 a0, .int .u32 a1, .int .u32 a2] w fun e w' => e = .returned (.bool true) ∧ Below w.heap.size w w' := by
  have u0 : U a0 := bounds_u32 w0
  have u1 : U a1 := bounds_u32 w1
  have u2 : U a2 := bounds_u32 w2
  clear w0 w1 w2
  have h1 := add_comm' a0 a1
  have h2 := mul_comm' a0 a1
  have h3 := sub_add' a1 u0
  have h4 := add_sub' a1 u0
  have h5 := add_assoc' a0 a1 a2
  have h6 := mul_assoc' a0 a1 a2
  have h7 := distrib' a0 a1 a2
  go_enter Try.func6, Try.ntmps6
  go_wp2_with fail
  refine (alive_any _).mono ?_
  rintro e w1 ⟨rfl, hb⟩
  go_wp2_with (go_at_call 20; refine (of_U _ _ _ _ (by repeat (first | assumption | apply ap_U)) (by repeat (first | assumption | apply ap_U))).mono ?_; rintro e w' ⟨rfl, rfl⟩)
  go_ret
  exact ⟨rfl, hb⟩

set_option maxRecDepth 100000 in
theorem lifted (os : Os) (started : os.Started) (H : Type) (enc : TypeId × Value → H) :
    ReturnsInHanded {} Try.checked os 6 .any (Rows.wordRingSpec.pre6 enc Try.prog Try.f6 Rows.wordRingRow.domain false) (Rows.wordRingSpec.post enc Try.prog Try.f6 false true false false) := by
  refine returnsInHanded_of_change (C := Try.checked) own started (by kernel_rfl) Try.func6
    (ChangeSpec.witness6 (enc := enc) (C := Try.checked) false ⟨#[], #[.int .u32 0, .int .u32 0, .int .u32 0], []⟩ 8 (by kernel_rfl) (by kernel_rfl) (by kernel_rfl) (by kernel_rfl)) ?_
  intro W base args ds gs before hval0 hW hcnd _
  have hval : ∀ (j : Nat) t v, Try.f6.params[j]? = some t → args[j]? = some v → Value.okWide Try.prog W .any base t v := hval0
  have hW' := hW
  obtain ⟨p, q, hA0, hV, rfl, hfz, hnd⟩ := hW
  have hA : DataW.TrodAll enc Try.prog W 0 (fun _ => true) true Try.f6.params.toList args.toList ds p := hA0
  rw [Try.params6] at hA hval
  obtain ⟨v0, vs0, d0, ds0, p0, q0, hargs, rfl, rfl, h0, r0⟩ := trodAll_cons hA
  obtain ⟨v1, vs1, d1, ds1, p1, q1, rfl, rfl, rfl, h1, r1⟩ := trodAll_cons r0
  obtain ⟨v2, vs2, d2, ds2, p2, q2, rfl, rfl, rfl, h2, r2⟩ := trodAll_cons r1
  obtain ⟨rfl, rfl, rfl⟩ := trodAll_nil r2
  obtain rfl : args = #[v0, v1, v2] := by cases args; simp_all
  obtain ⟨rfl, rfl⟩ := trodVars_none hV
  obtain ⟨a0, rfl, rfl, rfl, w0⟩ := open_int Try.underlying22 (hval 0 22 v0 rfl rfl) h0
  obtain ⟨a1, rfl, rfl, rfl, w1⟩ := open_int Try.underlying22 (hval 1 22 v1 rfl rfl) h1
  obtain ⟨a2, rfl, rfl, rfl, w2⟩ := open_int Try.underlying22 (hval 2 22 v2 rfl rfl) h2
  clear hA0 hval0
  simp only [List.append_nil] at hW'
  refine (walk a0 a1 a2 w0 w1 w2 W).mono fun e W' ⟨he, hg⟩ => ?_
  subst he
  exact ⟨_, rfl, _, _, _, [], [], [], hW', trodAll_mk1 (shut_bool Try.underlying4 _), (trodAll_cons_mk (shut_int Try.underlying22 w0) (trodAll_cons_mk (shut_int Try.underlying22 w1) (trodAll_cons_mk (shut_int Try.underlying22 w2) trodAll_mk0))), rfl, hg.frame _, fun h => by cases h⟩

theorem over : Rows.wordRingRow.holds Try.pinned (OpenSpec.ofChange Rows.wordRingSpec) :=
  OpenClaim.holds_of_wide 6 Try.f6 rfl rfl rfl rfl rfl rfl rfl ⟨rfl, rfl, rfl, rfl, rfl⟩ rfl rfl rfl rfl rfl (by kernel_rfl) Try.func6 (by kernel_rfl)
    (of_decide_eq_true (by kernel_rfl)) (by unfold Func.isWrapper; first | (rw [if_pos (by decide +kernel)]; kernel_rfl) | (rw [if_neg (by decide +kernel)]; exact ⟨rfl, rfl⟩))
    (fun os started H enc _ => lifted os started H enc)

/-- The statement. -/
theorem proved : Rows.WordRingSaid :=
  over
end Go.Proofs.Ytpdgmlndkhjlgaa.wordRing
