/- The law WordBits: for all words a and b and every byte n it returns true, and its arguments read as before. No condition. -/
import Derived.Test.YtpdgmlndkhjlgaaRows
import Derived.WalkKit
import Derived.ProofKit
import Derived.OpenShut
import Derived.Test.YtpdgmlndkhjlgaaAlive
namespace Go.Proofs.Ytpdgmlndkhjlgaa.wordBits
open Go.ChangeShapes Go.WideShapes Go.ChangeAt Go.RowKit
set_option linter.unusedVariables false      -- a walk need not use every 'w<i>' (that an integer argument fits its kind)


def U (x : Int) : Prop := 0 ≤ x ∧ x ≤ 4294967295
theorem ap_U {op a b : Int} (ha : U a) (hb : U b) : U (ap op a b) :=
  ⟨ap_nonneg op a b ha.1 hb.1, by have := ap_lt op a b ha.1 (by have := ha.2; omega) hb.1 (by have := hb.2; omega); omega⟩
theorem of_U (op a b : Int) (w : World) (ha : U a) (hb : U b) :
    Calls Try.prog 20 #[.int .i64 op, .int .u32 a, .int .u32 b] w fun e w' => e = .returned (.int .u32 (ap op a b)) ∧ w' = w :=
  of_any op a b w ha.1 (by have := ha.2; omega) hb.1 (by have := hb.2; omega)
theorem one_bit (p q : Nat) (hp : p < 2) (hq : q < 2) : (p &&& q) + (p ||| q) = p + q ∧ (p ^^^ q) + (p &&& q) = (p ||| q) := by
  match p, q, hp, hq with
  | 0, 0, _, _ => decide
  | 0, 1, _, _ => decide
  | 1, 0, _, _ => decide
  | 1, 1, _, _ => decide
theorem bitsum : ∀ (n x y : Nat), x < 2 ^ n → ((x &&& y) + (x ||| y) = x + y ∧ (x ^^^ y) + (x &&& y) = (x ||| y)) := by
  intro n
  induction n with
  | zero =>
    intro x y h
    have : x = 0 := by omega
    subst this; simp
  | succ n ih =>
    intro x y h
    have i := ih (x / 2) (y / 2) (by omega)
    have b := one_bit (x % 2) (y % 2) (by omega) (by omega)
    have a1 := Nat.and_div_two (a := x) (b := y)
    have o1 := Nat.or_div_two (a := x) (b := y)
    have e1 := Nat.xor_div_two (a := x) (b := y)
    have a2 := Nat.and_mod_two_pow (a := x) (b := y) (n := 1)
    have o2 := Nat.or_mod_two_pow (a := x) (b := y) (n := 1)
    have e2 := Nat.xor_mod_two_pow (a := x) (b := y) (n := 1)
    simp only [Nat.pow_one] at a2 o2 e2
    omega
theorem both_one {a b : Int} (ha : U a) (hb : U b) : ap 9 a b + ap 10 a b = a + b := by
  have h := (bitsum 32 a.toNat b.toNat (by have := ha.1; have := ha.2; omega)).1
  have h1 := ha.1
  have h2 := hb.1
  have e1 : ap 9 a b = ((a.toNat &&& b.toNat : Nat) : Int) := by simp [ap]
  have e2 : ap 10 a b = ((a.toNat ||| b.toNat : Nat) : Int) := by simp [ap]
  rw [e1, e2]; omega
theorem just_both {a b : Int} (ha : U a) (hb : U b) : ap 11 a b + ap 9 a b = ap 10 a b := by
  have h := (bitsum 32 a.toNat b.toNat (by have := ha.1; have := ha.2; omega)).2
  have e1 : ap 9 a b = ((a.toNat &&& b.toNat : Nat) : Int) := by simp [ap]
  have e2 : ap 10 a b = ((a.toNat ||| b.toNat : Nat) : Int) := by simp [ap]
  have e3 : ap 11 a b = ((a.toNat ^^^ b.toNat : Nat) : Int) := by simp [ap]
  rw [e1, e2, e3]; omega
theorem pow_le31 (k : Nat) (hk : k < 32) : (1 : Int) ≤ 2 ^ k ∧ (2 : Int) ^ k ≤ 2147483648 := by
  have h1 : (2 : Nat) ^ k ≤ 2 ^ 31 := Nat.pow_le_pow_right (by decide) (by omega)
  have h2 : 0 < 2 ^ k := Nat.two_pow_pos k
  have h3 : ((2 ^ k : Nat) : Int) = 2 ^ k := by push_cast; rfl
  rw [← h3]
  constructor
  · omega
  · have h4 : (2 : Nat) ^ 31 = 2147483648 := by decide
    omega
theorem shl_mul (a : Int) (k : Nat) (hk : k < 32) : ap 12 a (k : Int) = ap 6 a (2 ^ k) := by
  have e1 : ap 12 a (k : Int) = a * 2 ^ min k 32 % 4294967296 := by simp [ap]
  have e2 : ap 6 a (2 ^ k) = a * 2 ^ k % 4294967296 := by simp [ap]
  rw [e1, e2, Nat.min_eq_left (by omega)]
theorem shr_div (a : Int) (k : Nat) (hk : k < 32) : ap 13 a (k : Int) = ap 7 a (2 ^ k) := by
  have hp := (pow_le31 k hk).1
  have e1 : ap 13 a (k : Int) = a / 2 ^ min k 32 := by simp [ap]
  have e2 : ap 7 a (2 ^ k) = if (2 : Int) ^ k = 0 then 0 else a / 2 ^ k := by simp [ap]
  rw [e1, e2, Nat.min_eq_left (by omega), if_neg (by omega)]
theorem shl_far (a f : Int) (hf : 32 ≤ f) : ap 12 a f = 0 := by
  have e1 : ap 12 a f = a * 2 ^ min f.toNat 32 % 4294967296 := by simp [ap]
  rw [e1, Nat.min_eq_right (by omega)]
  omega
theorem shr_far {a : Int} (f : Int) (ha : U a) (hf : 32 ≤ f) : ap 13 a f = 0 := by
  have h1 := ha.1
  have h2 := ha.2
  have e1 : ap 13 a f = a / 2 ^ min f.toNat 32 := by simp [ap]
  rw [e1, Nat.min_eq_right (by omega)]
  omega

theorem own : ownKnob Try.prog.godebug = none := by kernel_rfl

theorem walk (a0 : Int) (a1 : Int) (a2 : Int) (w0 : (Lit.int .u32 a0).wf = true) (w1 : (Lit.int .u32 a1).wf = true) (w2 : (Lit.int .u8 a2).wf = true) (w : World) :
    Calls Try.prog 8 #[.int .u32 a0, .int .u32 a1, .int .u8 a2] w fun e w' => e = .returned (.bool true) ∧ Below w.heap.size w w' := by
  have u0 : U a0 := bounds_u32 w0
  have u1 : U a1 := bounds_u32 w1
  obtain ⟨n0, n1⟩ := bounds_u8 w2
  clear w0 w1 w2
  obtain ⟨k, hk⟩ : ∃ k : Nat, a2 % 32 = (k : Int) := ⟨(a2 % 32).toNat, by omega⟩
  have k1 : k < 32 := by omega
  obtain ⟨b1, b2⟩ : U (ap 9 a0 a1) := ap_U u0 u1
  obtain ⟨o1, o2⟩ : U (ap 10 a0 a1) := ap_U u0 u1
  obtain ⟨j1, j2⟩ : U (ap 11 a0 a1) := ap_U u0 u1
  obtain ⟨x1, x2⟩ := u0
  obtain ⟨y1, y2⟩ := u1
  have u0 : U a0 := ⟨x1, x2⟩
  have u1 : U a1 := ⟨y1, y2⟩
  have f1 : (ap 9 a0 a1 + ap 10 a0 a1 != a0 + a1) = false := by rw [both_one u0 u1]; simp
  have f2 : (ap 11 a0 a1 + ap 9 a0 a1 != ap 10 a0 a1) = false := by rw [just_both u0 u1]; simp
  have hp := pow_le31 k k1
  have g1 := shl_mul a0 k k1
  have g2 := shr_div a0 k k1
  obtain ⟨P, hP⟩ : ∃ P : Int, (2 : Int) ^ k = P := ⟨_, rfl⟩
  rw [hP] at hp g1 g2
  have uP : U P := ⟨by omega, by omega⟩
  have uk : U (k : Int) := ⟨by omega, by omega⟩
  have HP := Lib.hid hP
  clear hP
  by_cases hn : a2 < 32
  · have far1 := shl_far a0 (a2 + 32) (by omega)
    have far2 := shr_far (a2 + 32) u0 (by omega)
    have uf : U (a2 + 32) := ⟨by omega, by omega⟩
    go_enter Try.func8, Try.ntmps8
    go_wp2_with fail
    refine (alive_any _).mono ?_
    rintro e w1 ⟨rfl, hb⟩
    go_wp2_with (go_at_call 20; refine (of_U _ _ _ _ (by repeat (first | assumption | apply ap_U)) (by repeat (first | assumption | apply ap_U))).mono ?_; rintro e w' ⟨rfl, rfl⟩)
    go_loop [11, 12] (fun p i => ∃ j : Nat, j ≤ k ∧ i = .int .u32 j ∧ p = .int .u32 (2 ^ j)) (fun _ i => k - (intOf i).toNat)
    case atStart => exact ⟨0, Nat.zero_le _, rfl, rfl⟩
    case round =>
      obtain ⟨j, hj, rfl, rfl⟩ := hrel
      by_cases hlt : j < k
      · have hq := pow_le31 (j + 1) (by omega)
        rw [Int.pow_succ] at hq
        go_wp2
        go_round
        case rel => exact ⟨j + 1, by omega, by go_num, by rw [Int.pow_succ, Int.mul_comm]⟩
        case measure => simp [intOf]; omega
      · obtain rfl : j = k := by omega
        rw [HP.out]
        go_wp2_with (go_at_call 20; refine (of_U _ _ _ _ (by repeat (first | assumption | apply ap_U)) (by repeat (first | assumption | apply ap_U))).mono ?_; rintro e w' ⟨rfl, rfl⟩)
        go_ret
        exact ⟨rfl, hb⟩

  · have far1 := shl_far a0 a2 (by omega)
    have far2 := shr_far a2 u0 (by omega)
    have uf : U a2 := ⟨by omega, by omega⟩
    go_enter Try.func8, Try.ntmps8
    go_wp2_with fail
    refine (alive_any _).mono ?_
    rintro e w1 ⟨rfl, hb⟩
    go_wp2_with (go_at_call 20; refine (of_U _ _ _ _ (by repeat (first | assumption | apply ap_U)) (by repeat (first | assumption | apply ap_U))).mono ?_; rintro e w' ⟨rfl, rfl⟩)
    go_loop [11, 12] (fun p i => ∃ j : Nat, j ≤ k ∧ i = .int .u32 j ∧ p = .int .u32 (2 ^ j)) (fun _ i => k - (intOf i).toNat)
    case atStart => exact ⟨0, Nat.zero_le _, rfl, rfl⟩
    case round =>
      obtain ⟨j, hj, rfl, rfl⟩ := hrel
      by_cases hlt : j < k
      · have hq := pow_le31 (j + 1) (by omega)
        rw [Int.pow_succ] at hq
        go_wp2
        go_round
        case rel => exact ⟨j + 1, by omega, by go_num, by rw [Int.pow_succ, Int.mul_comm]⟩
        case measure => simp [intOf]; omega
      · obtain rfl : j = k := by omega
        rw [HP.out]
        go_wp2_with (go_at_call 20; refine (of_U _ _ _ _ (by repeat (first | assumption | apply ap_U)) (by repeat (first | assumption | apply ap_U))).mono ?_; rintro e w' ⟨rfl, rfl⟩)
        go_ret
        exact ⟨rfl, hb⟩


set_option maxRecDepth 100000 in
theorem lifted (os : Os) (started : os.Started) (H : Type) (enc : TypeId × Value → H) :
    ReturnsInHanded {} Try.checked os 8 .any (Rows.wordBitsSpec.pre6 enc Try.prog Try.f8 Rows.wordBitsRow.domain false) (Rows.wordBitsSpec.post enc Try.prog Try.f8 false true false false) := by
  refine returnsInHanded_of_change (C := Try.checked) own started (by kernel_rfl) Try.func8
    (ChangeSpec.witness6 (enc := enc) (C := Try.checked) false ⟨#[], #[.int .u32 0, .int .u32 0, .int .u8 0], []⟩ 8 (by kernel_rfl) (by kernel_rfl) (by kernel_rfl) (by kernel_rfl)) ?_
  intro W base args ds gs before hval0 hW hcnd _
  have hval : ∀ (j : Nat) t v, Try.f8.params[j]? = some t → args[j]? = some v → Value.okWide Try.prog W .any base t v := hval0
  have hW' := hW
  obtain ⟨p, q, hA0, hV, rfl, hfz, hnd⟩ := hW
  have hA : DataW.TrodAll enc Try.prog W 0 (fun _ => true) true Try.f8.params.toList args.toList ds p := hA0
  rw [Try.params8] at hA hval
  obtain ⟨v0, vs0, d0, ds0, p0, q0, hargs, rfl, rfl, h0, r0⟩ := trodAll_cons hA
  obtain ⟨v1, vs1, d1, ds1, p1, q1, rfl, rfl, rfl, h1, r1⟩ := trodAll_cons r0
  obtain ⟨v2, vs2, d2, ds2, p2, q2, rfl, rfl, rfl, h2, r2⟩ := trodAll_cons r1
  obtain ⟨rfl, rfl, rfl⟩ := trodAll_nil r2
  obtain rfl : args = #[v0, v1, v2] := by cases args; simp_all
  obtain ⟨rfl, rfl⟩ := trodVars_none hV
  obtain ⟨a0, rfl, rfl, rfl, w0⟩ := open_int Try.underlying22 (hval 0 22 v0 rfl rfl) h0
  obtain ⟨a1, rfl, rfl, rfl, w1⟩ := open_int Try.underlying22 (hval 1 22 v1 rfl rfl) h1
  obtain ⟨a2, rfl, rfl, rfl, w2⟩ := open_int Try.underlying5 (hval 2 5 v2 rfl rfl) h2
  clear hA0 hval0
  simp only [List.append_nil] at hW'
  refine (walk a0 a1 a2 w0 w1 w2 W).mono fun e W' ⟨he, hg⟩ => ?_
  subst he
  exact ⟨_, rfl, _, _, _, [], [], [], hW', trodAll_mk1 (shut_bool Try.underlying4 _), (trodAll_cons_mk (shut_int Try.underlying22 w0) (trodAll_cons_mk (shut_int Try.underlying22 w1) (trodAll_cons_mk (shut_int Try.underlying5 w2) trodAll_mk0))), rfl, hg.frame _, fun h => by cases h⟩

theorem over : Rows.wordBitsRow.holds Try.pinned (OpenSpec.ofChange Rows.wordBitsSpec) :=
  OpenClaim.holds_of_wide 8 Try.f8 rfl rfl rfl rfl rfl rfl rfl ⟨rfl, rfl, rfl, rfl, rfl⟩ rfl rfl rfl rfl rfl (by kernel_rfl) Try.func8 (by kernel_rfl)
    (of_decide_eq_true (by kernel_rfl)) (by unfold Func.isWrapper; first | (rw [if_pos (by decide +kernel)]; kernel_rfl) | (rw [if_neg (by decide +kernel)]; exact ⟨rfl, rfl⟩))
    (fun os started H enc _ => lifted os started H enc)

/-- The statement. -/
theorem proved : Rows.WordBitsSaid :=
  over
end Go.Proofs.Ytpdgmlndkhjlgaa.wordBits
