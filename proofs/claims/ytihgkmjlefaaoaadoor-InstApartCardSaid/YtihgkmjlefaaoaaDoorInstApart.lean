/- The law InstApart: for every two instructions it returns true, and all read as before. The tables that it reads hold what the program's text lays (the card ties them). No other condition. -/
import Derived.Test.YtihgkmjlefaaoaaDoorInsQ
import Derived.Test.YtihgkmjlefaaoaaDoorInsR
import Derived.Test.YtihgkmjlefaaoaaDoorInsW
import Derived.Deep.DeepCutAuto
import Derived.Deep.RegionHeld3
namespace Go.Proofs.YtihgkmjlefaaoaaDoor.instApart
open Go.ChangeShapes Go.WideShapes Go.ChangeAt Go.RowKit
open Go.ChangeMaps (open_string shut_string)
set_option linter.unusedVariables false

theorem at44 {p : Option Nat} {w W : World} {q r : Nat} {t u : TypeId} {v0 v1 v2 v3 u0 u1 u2 u3 : Value} (h : Kx p w W [(q, .cells #[v0, v1, v2, v3] t (0, 0)), (r, .cells #[u0, u1, u2, u3] u (0, 0))]) : W.cell? ⟨q, 0, none⟩ = some v0 ∧ W.cell? ⟨q, 1, none⟩ = some v1 ∧ W.cell? ⟨q, 2, none⟩ = some v2 ∧ W.cell? ⟨q, 3, none⟩ = some v3 ∧ W.cell? ⟨r, 0, none⟩ = some u0 ∧ W.cell? ⟨r, 1, none⟩ = some u1 ∧ W.cell? ⟨r, 2, none⟩ = some u2 ∧ W.cell? ⟨r, 3, none⟩ = some u3 := by
  obtain ⟨a0, a1, a2, a3, _⟩ := cells4 (h.at 0 rfl)
  obtain ⟨b0, b1, b2, b3, _⟩ := cells4 (h.at 1 rfl)
  exact ⟨a0, a1, a2, a3, b0, b1, b2, b3⟩
set_option maxRecDepth 100000 in
set_option maxHeartbeats 4000000 in
theorem walk_no {op a b c op2 a2 b2 c2 : Int} (hr : rgt op a b c = false) (w : World) (ht : Tabs w) :
    Calls Tryd.prog 6 #[.agg #[.int .i64 op, .int .i64 a, .int .i64 b, .int .i64 c], .agg #[.int .i64 op2, .int .i64 a2, .int .i64 b2, .int .i64 c2]] w fun e w' => e = .returned (.bool true) ∧ Below w.heap.size w w' := by
  have CA := Lib.hid (fun w ht => awake7 w ht)
  have c1 := fun w ht => right7 op a b c w ht
  have c2x := fun w ht => right7 op2 a2 b2 c2 w ht
  have HT := Lib.hid ht
  have HK := Lib.hid (((Kx.nil none w).more (.cells #[.int .i64 op, .int .i64 a, .int .i64 b, .int .i64 c] 23 (0, 0))).add (w.heap.size + 1) (by simp) (.cells #[.int .i64 op2, .int .i64 a2, .int .i64 b2, .int .i64 c2] 23 (0, 0)))
  rw [hr] at c1
  have C1 := Lib.hid c1
  clear c1 c2x hr ht
  go_enter Tryd.func6, Tryd.ntmps6
  go_wp2_with fail
  refine (CA.out _ (HT.out.oldn HK.out)).mono ?_
  rintro e w1 ⟨rfl, hb⟩
  replace HK := Lib.hid (HK.out.after hb)
  clear hb
  obtain ⟨a0, a1, a2x, a3, _⟩ := cells4 (HK.out.at 0 rfl)
  obtain ⟨b0, b1, b2x, b3, _⟩ := cells4 (HK.out.at 1 rfl)
  go_wp2_with fail
  refine (C1.out _ (HT.out.oldn HK.out)).mono ?_
  rintro e w2 ⟨rfl, hb⟩
  replace HK := Lib.hid (HK.out.after hb)
  clear hb
  go_wp2_with fail
  go_ret
  exact ⟨rfl, HK.out.be.plain⟩
set_option maxRecDepth 100000 in
set_option maxHeartbeats 4000000 in
theorem walk_no2 {op a b c op2 a2 b2 c2 : Int} (hr : rgt op a b c = true) (hr2 : rgt op2 a2 b2 c2 = false) (w : World) (ht : Tabs w) :
    Calls Tryd.prog 6 #[.agg #[.int .i64 op, .int .i64 a, .int .i64 b, .int .i64 c], .agg #[.int .i64 op2, .int .i64 a2, .int .i64 b2, .int .i64 c2]] w fun e w' => e = .returned (.bool true) ∧ Below w.heap.size w w' := by
  have CA := Lib.hid (fun w ht => awake7 w ht)
  have c1 := fun w ht => right7 op a b c w ht
  have c2x := fun w ht => right7 op2 a2 b2 c2 w ht
  have HT := Lib.hid ht
  have HK := Lib.hid (((Kx.nil none w).more (.cells #[.int .i64 op, .int .i64 a, .int .i64 b, .int .i64 c] 23 (0, 0))).add (w.heap.size + 1) (by simp) (.cells #[.int .i64 op2, .int .i64 a2, .int .i64 b2, .int .i64 c2] 23 (0, 0)))
  rw [hr] at c1
  rw [hr2] at c2x
  have C1 := Lib.hid c1
  have C2 := Lib.hid c2x
  clear c1 c2x hr hr2 ht
  go_enter Tryd.func6, Tryd.ntmps6
  go_wp2_with fail
  refine (CA.out _ (HT.out.oldn HK.out)).mono ?_
  rintro e w1 ⟨rfl, hb⟩
  replace HK := Lib.hid (HK.out.after hb)
  clear hb
  obtain ⟨a0, a1, a2x, a3, _⟩ := cells4 (HK.out.at 0 rfl)
  obtain ⟨b0, b1, b2x, b3, _⟩ := cells4 (HK.out.at 1 rfl)
  go_wp2_with fail
  refine (C1.out _ (HT.out.oldn HK.out)).mono ?_
  rintro e w2 ⟨rfl, hb⟩
  replace HK := Lib.hid (HK.out.after hb)
  clear hb
  clear a0 a1 a2x a3 b0 b1 b2x b3
  obtain ⟨a0, a1, a2x, a3, _⟩ := cells4 (HK.out.at 0 rfl)
  obtain ⟨b0, b1, b2x, b3, _⟩ := cells4 (HK.out.at 1 rfl)
  go_wp2_with fail
  refine (C2.out _ (HT.out.oldn HK.out)).mono ?_
  rintro e w3 ⟨rfl, hb⟩
  replace HK := Lib.hid (HK.out.after hb)
  clear hb
  go_wp2_with fail
  go_ret
  exact ⟨rfl, HK.out.be.plain⟩
set_option maxRecDepth 100000 in
set_option maxHeartbeats 4000000 in
theorem walk_yes {op a b c op2 a2 b2 c2 : Int} (hr : rgt op a b c = true) (hr2 : rgt op2 a2 b2 c2 = true) (w : World) (ht : Tabs w) :
    Calls Tryd.prog 6 #[.agg #[.int .i64 op, .int .i64 a, .int .i64 b, .int .i64 c], .agg #[.int .i64 op2, .int .i64 a2, .int .i64 b2, .int .i64 c2]] w fun e w' => e = .returned (.bool true) ∧ Below w.heap.size w w' := by
  have CA := Lib.hid (fun w ht => awake7 w ht)
  have c1 := fun w ht => right7 op a b c w ht
  have c2x := fun w ht => right7 op2 a2 b2 c2 w ht
  have HT := Lib.hid ht
  have HK := Lib.hid (((Kx.nil none w).more (.cells #[.int .i64 op, .int .i64 a, .int .i64 b, .int .i64 c] 23 (0, 0))).add (w.heap.size + 1) (by simp) (.cells #[.int .i64 op2, .int .i64 a2, .int .i64 b2, .int .i64 c2] 23 (0, 0)))
  rw [hr] at c1
  rw [hr2] at c2x
  have c3 := fun w ht => encode7 op a b c w ht
  have c4 := fun w ht => encode7 op2 a2 b2 c2 w ht
  have c5 := fun w ht => text7 op a b c w ht
  have c6 := fun w ht => text7 op2 a2 b2 c2 w ht
  rw [show ecv op a b c = enc op a b c from by unfold ecv; rw [hr]; rfl, show ece op a b c = 0 from by unfold ece; rw [hr]; rfl] at c3
  rw [show ecv op2 a2 b2 c2 = enc op2 a2 b2 c2 from by unfold ecv; rw [hr2]; rfl, show ece op2 a2 b2 c2 = 0 from by unfold ece; rw [hr2]; rfl] at c4
  rw [show itx op a b c = txi op a b c from by unfold itx; rw [hr]; rfl] at c5
  rw [show itx op2 a2 b2 c2 = txi op2 a2 b2 c2 from by unfold itx; rw [hr2]; rfl] at c6
  have qi := eqIns
  obtain ⟨q, hq⟩ : ∃ q : Bool, decide (op = op2 ∧ a = a2 ∧ b = b2 ∧ c = c2) = q := ⟨_, rfl⟩
  have qi2 : ∀ w, (Op.equalIn 10000 23 (.agg #[.int .i64 op, .int .i64 a, .int .i64 b, .int .i64 c]) (.agg #[.int .i64 op2, .int .i64 a2, .int .i64 b2, .int .i64 c2])).run Tryd.prog w = .ok q w := fun w => by rw [qi, hq]
  have e1 : (enc op a b c == enc op2 a2 b2 c2) = q := by
    rw [← hq]
    by_cases h : op = op2 ∧ a = a2 ∧ b = b2 ∧ c = c2
    · obtain ⟨rfl, rfl, rfl, rfl⟩ := h; simp
    · rw [decide_eq_false h, beq_eq_false_iff_ne]; exact fun e => h (enc_inj hr hr2 e)
  have e2 : ((⟨(txi op a b c).toArray⟩ : ByteArray).toList == (⟨(txi op2 a2 b2 c2).toArray⟩ : ByteArray).toList) = q := by
    rw [← hq, ByteArray.toList_eq, ByteArray.toList_eq]
    show (txi op a b c == txi op2 a2 b2 c2) = _
    by_cases h : op = op2 ∧ a = a2 ∧ b = b2 ∧ c = c2
    · obtain ⟨rfl, rfl, rfl, rfl⟩ := h; simp
    · rw [decide_eq_false h, beq_eq_false_iff_ne]; exact fun e => h (txi_inj hr hr2 e)
  obtain ⟨T1, hT1⟩ : ∃ S : ByteArray, ⟨(txi op a b c).toArray⟩ = S := ⟨_, rfl⟩
  obtain ⟨T2, hT2⟩ : ∃ S : ByteArray, ⟨(txi op2 a2 b2 c2).toArray⟩ = S := ⟨_, rfl⟩
  obtain ⟨E1, hE1⟩ : ∃ x, enc op a b c = x := ⟨_, rfl⟩
  obtain ⟨E2, hE2⟩ : ∃ x, enc op2 a2 b2 c2 = x := ⟨_, rfl⟩
  rw [hT1] at c5 e2
  rw [hT2] at c6 e2
  rw [hE1] at c3 e1
  rw [hE2] at c4 e1
  have sq : (q == q) = true := by simp
  have C1 := Lib.hid c1
  have C2 := Lib.hid c2x
  have C3 := Lib.hid c3
  have C4 := Lib.hid c4
  have C5 := Lib.hid c5
  have C6 := Lib.hid c6
  clear c1 c2x c3 c4 c5 c6 hr hr2 ht hT1 hT2 hE1 hE2 hq qi
  go_enter Tryd.func6, Tryd.ntmps6
  go_wp2_with fail
  refine (CA.out _ (HT.out.oldn HK.out)).mono ?_
  rintro e w1 ⟨rfl, hb⟩
  replace HK := Lib.hid (HK.out.after hb)
  clear hb
  obtain ⟨a0, a1, a2x, a3, _⟩ := cells4 (HK.out.at 0 rfl)
  obtain ⟨b0, b1, b2x, b3, _⟩ := cells4 (HK.out.at 1 rfl)
  go_wp2_with fail
  refine (C1.out _ (HT.out.oldn HK.out)).mono ?_
  rintro e w2 ⟨rfl, hb⟩
  replace HK := Lib.hid (HK.out.after hb)
  clear hb
  clear a0 a1 a2x a3 b0 b1 b2x b3
  obtain ⟨a0, a1, a2x, a3, _⟩ := cells4 (HK.out.at 0 rfl)
  obtain ⟨b0, b1, b2x, b3, _⟩ := cells4 (HK.out.at 1 rfl)
  go_wp2_with fail
  refine (C2.out _ (HT.out.oldn HK.out)).mono ?_
  rintro e w3 ⟨rfl, hb⟩
  replace HK := Lib.hid (HK.out.after hb)
  clear hb
  clear a0 a1 a2x a3 b0 b1 b2x b3
  obtain ⟨a0, a1, a2x, a3, _⟩ := cells4 (HK.out.at 0 rfl)
  obtain ⟨b0, b1, b2x, b3, _⟩ := cells4 (HK.out.at 1 rfl)
  go_wp2_with fail
  refine (C3.out _ (HT.out.oldn HK.out)).mono ?_
  rintro e w4 ⟨rfl, hb⟩
  replace HK := Lib.hid (HK.out.after hb)
  clear hb
  clear a0 a1 a2x a3 b0 b1 b2x b3
  obtain ⟨a0, a1, a2x, a3, _⟩ := cells4 (HK.out.at 0 rfl)
  obtain ⟨b0, b1, b2x, b3, _⟩ := cells4 (HK.out.at 1 rfl)
  go_wp2_with fail
  refine (C4.out _ (HT.out.oldn HK.out)).mono ?_
  rintro e w5 ⟨rfl, hb⟩
  replace HK := Lib.hid (HK.out.after hb)
  clear hb
  clear a0 a1 a2x a3 b0 b1 b2x b3
  go_wp2_with fail
  replace HK := Lib.hid HK.out.drew
  go_region_held3 (fun W => W.cell? ⟨w.heap.size, 0, none⟩ = some (.int .i64 op) ∧ W.cell? ⟨w.heap.size, 1, none⟩ = some (.int .i64 a) ∧ W.cell? ⟨w.heap.size, 2, none⟩ = some (.int .i64 b) ∧ W.cell? ⟨w.heap.size, 3, none⟩ = some (.int .i64 c) ∧ W.cell? ⟨w.heap.size + 1, 0, none⟩ = some (.int .i64 op2) ∧ W.cell? ⟨w.heap.size + 1, 1, none⟩ = some (.int .i64 a2) ∧ W.cell? ⟨w.heap.size + 1, 2, none⟩ = some (.int .i64 b2) ∧ W.cell? ⟨w.heap.size + 1, 3, none⟩ = some (.int .i64 c2))
    (exact at44 HK.out)
    (first
      | (go_at_call 14; (with_reducible refine (C5.out _ (HT.out.oldn HK.out)).mono ?_); rintro e w' ⟨rfl, hb⟩; replace HK := Lib.hid (HK.out.after hb); clear hb)
      | (go_at_call 14; (with_reducible refine (C6.out _ (HT.out.oldn HK.out)).mono ?_); rintro e w' ⟨rfl, hb⟩; replace HK := Lib.hid (HK.out.after hb); clear hb))
  all_goals
    go_wp2_with fail
    go_ret
    exact ⟨rfl, HK.out.be.plain⟩
theorem walk {op a b c op2 a2 b2 c2 : Int} (w : World) (ht : Tabs w) :
    Calls Tryd.prog 6 #[.agg #[.int .i64 op, .int .i64 a, .int .i64 b, .int .i64 c], .agg #[.int .i64 op2, .int .i64 a2, .int .i64 b2, .int .i64 c2]] w fun e w' => e = .returned (.bool true) ∧ Below w.heap.size w w' := by
  cases hr : rgt op a b c with
  | false => exact walk_no hr w ht
  | true =>
    cases hr2 : rgt op2 a2 b2 c2 with
    | false => exact walk_no2 hr hr2 w ht
    | true => exact walk_yes hr hr2 w ht

set_option maxRecDepth 100000 in
theorem contract (H : Type) (enc : TypeId × Value → H) (W : World) (base : Nat) (args : Array Value) (ds gs : List (DataW H)) (before : List MemPlace)
    (hval : ∀ (j : Nat) t v, Tryd.f6.params[j]? = some t → args[j]? = some v → Value.okWide Tryd.prog W .any base t v)
    (hW : DataW.Whole enc Tryd.prog Tryd.f6.params.toList Rows.instApartSpec.vars false W args.toList ds gs before) (hL : laidMetH Tryd.prog Rows.instApartRow.laid W) :
    Calls Tryd.prog 6 args W fun e W' => ∃ v, e = .returned v ∧ Rows.instApartSpec.post enc Tryd.prog Tryd.f6 false true false false W args v W' := by
  have hW' := hW
  obtain ⟨p, q, hA0, hV, rfl, hfz, hnd⟩ := hW
  have hA : DataW.TrodAll enc Tryd.prog W 0 (fun _ => true) true Tryd.f6.params.toList args.toList ds p := hA0
  rw [Tryd.params6] at hA hval
  obtain ⟨v0, vs0, d0, ds0, p0, q0, hargs, rfl, rfl, h0, r0⟩ := trodAll_cons hA
  obtain ⟨v1, vs1, d1, ds1, p1, q1, rfl, rfl, rfl, h1, r1⟩ := trodAll_cons r0
  obtain ⟨rfl, rfl, rfl⟩ := trodAll_nil r1
  obtain rfl : args = #[v0, v1] := by cases args; simp_all
  obtain ⟨rfl, rfl⟩ := trodVars_none hV
  have lt0 : ∀ x ∈ p0, x.block < W.heap.size := by obtain ⟨m, hm⟩ := h0; exact DataW.trod_lt m _ _ _ hm
  obtain ⟨I00, I01, I02, I03, rfl⟩ := open_ins (hval 0 23 v0 rfl rfl) h0
  have lt1 : ∀ x ∈ p1, x.block < W.heap.size := by obtain ⟨m, hm⟩ := h1; exact DataW.trod_lt m _ _ _ hm
  obtain ⟨I10, I11, I12, I13, rfl⟩ := open_ins (hval 1 23 v1 rfl rfl) h1
  clear hA0
  refine (walk  W  (tabs_of hL)).mono fun e W' ⟨he, bel⟩ => ?_
  subst he
  exact ⟨_, rfl, _, _, _, [], _, [], hW', trodAll_mk1 (shut_bool Tryd.underlying4 _), (trodAll_cons_mk (Below.trod laidOut (by kernel_rfl) (of_decide_eq_true (by kernel_rfl)) h0 bel lt0) (trodAll_cons_mk (Below.trod laidOut (by kernel_rfl) (of_decide_eq_true (by kernel_rfl)) h1 bel lt1) trodAll_mk0)), rfl, bel.frame _, fun h => by cases h⟩

theorem laid_met (os : Os) : laidMet Tryd.prog Rows.instApartRow.laid ((laidWorld os).forCall (fun _ _ => 0) ⟨#[], #[.agg #[.int .i64 0, .int .i64 0, .int .i64 0, .int .i64 0], .agg #[.int .i64 0, .int .i64 0, .int .i64 0, .int .i64 0]], []⟩).memory :=
  laidMet_of_run' 8 (by kernel_rfl) (by kernel_rfl)
theorem reads (os : Os) {H : Type} (enc : TypeId × Value → H) : ∃ places, DataW.whole enc Tryd.prog ((laidWorld os).forCall (fun _ _ => 0) ⟨#[], #[.agg #[.int .i64 0, .int .i64 0, .int .i64 0, .int .i64 0], .agg #[.int .i64 0, .int .i64 0, .int .i64 0, .int .i64 0]], []⟩).memory Tryd.f6.params.toList Rows.instApartSpec.vars false (#[.agg #[.int .i64 0, .int .i64 0, .int .i64 0, .int .i64 0], .agg #[.int .i64 0, .int .i64 0, .int .i64 0, .int .i64 0]] : Array Value).toList 8 = some ([.agg [.lit (.int .i64 0), .lit (.int .i64 0), .lit (.int .i64 0), .lit (.int .i64 0)], .agg [.lit (.int .i64 0), .lit (.int .i64 0), .lit (.int .i64 0), .lit (.int .i64 0)]], [], places) :=
  ⟨[], by kernel_rfl⟩

set_option maxRecDepth 100000 in
theorem lifted (os : Os) (started : os.Started) (H : Type) (enc : TypeId × Value → H) (F : Stop.Interp) :
    ReturnsInHanded {} Tryd.checked os 6 .any ((OpenSpec.ofChange Rows.instApartSpec).preRow enc Tryd.prog Tryd.f6 Rows.instApartRow.domain false Rows.instApartRow.laid) (((OpenSpec.ofChange Rows.instApartSpec).at F).post enc Tryd.prog Tryd.f6 false true false false) := by
  obtain ⟨places, hx⟩ := reads os enc
  refine returnsInHanded_of_row (C := Tryd.checked) (s := OpenSpec.ofChange Rows.instApartSpec) own started (by kernel_rfl) Tryd.func6
    (witness_row_at (enc := enc) (C := Tryd.checked) false (laidWorld os) #[.agg #[.int .i64 0, .int .i64 0, .int .i64 0, .int .i64 0], .agg #[.int .i64 0, .int .i64 0, .int .i64 0, .int .i64 0]] rfl (by kernel_rfl) (by kernel_rfl) (by kernel_rfl)
      (OpenSpec.preRow_of_cond 8 hx (by kernel_rfl) (fun k hk => by cases hk) (by kernel_rfl) (laid_met os))) ?_
  intro W base args ds gs before hval hW _ _ _ hL _ _
  exact contract H enc W base args ds gs before hval hW hL

theorem said : Rows.InstApartSaid :=
  OpenClaim.holds_of_cond 6 Tryd.f6 rfl rfl rfl rfl rfl rfl rfl ⟨rfl, rfl, rfl, rfl, rfl⟩ rfl rfl rfl rfl rfl (by kernel_rfl) Tryd.func6 (by kernel_rfl)
    (of_decide_eq_true (by kernel_rfl)) (by unfold Func.isWrapper; first | (rw [if_pos (by decide +kernel)]; kernel_rfl) | (rw [if_neg (by decide +kernel)]; exact ⟨rfl, rfl⟩))
    (fun os started H enc _ F => by rw [OpenClaim.pre_eq_preRow]; exact lifted os started H enc F)

theorem plain (f : FuncId) (fn : Func) (hf : Tryd.pinned.checked.prog.funcNamed "seedcorn/seedcornlaw07.InstApart" = some f) (hfn : Tryd.pinned.checked.prog.funcs[f]? = some fn) :
    false = Tryd.pinned.checked.prog.looks [] ∧ ∀ (j : Nat) t, fn.params[j]? = some t → Tryd.pinned.checked.prog.wantsStandIn t = false := by
  obtain rfl : f = 6 := Option.some.inj ((show Tryd.prog.funcNamed "seedcorn/seedcornlaw07.InstApart" = some 6 by kernel_rfl).symm.trans hf) |>.symm
  obtain rfl : fn = Tryd.f6 := (Option.some.inj (Tryd.func6.symm.trans hfn)).symm
  refine ⟨by kernel_rfl, fun j t ht => ?_⟩
  rw [Tryd.params6] at ht
  have hm := Array.mem_of_getElem? ht
  have hm' : t = 23 := by simpa using hm
  rcases hm' with rfl
  · exact (show Tryd.prog.wantsStandIn 23 = false by kernel_rfl)

/-- The card. -/
theorem card : Rows.InstApartCardSaid :=
  Claim7.holds_tied_plain_at .later [] _ _ _ _ said (fun _ h => by cases h) (by kernel_rfl) (fun _ h => by cases h) instApart_row_tie rfl ⟨rfl, rfl⟩ (by kernel_rfl) rfl plain (by kernel_rfl)
end Go.Proofs.YtihgkmjlefaaoaaDoor.instApart
