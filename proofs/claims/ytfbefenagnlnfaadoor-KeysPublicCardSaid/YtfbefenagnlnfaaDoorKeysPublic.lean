/- The law KeysPublic: for every seed and every height it returns true, and both read as before. The tables that it reads hold what the program's text lays (the card ties them). No other condition. -/
import Derived.Test.YtfbefenagnlnfaaDoorKeyR
import Derived.Test.YtfbefenagnlnfaaDoorKeyW
namespace Go.Proofs.YtfbefenagnlnfaaDoor.keysPublic
open Go.ChangeShapes Go.WideShapes Go.ChangeAt Go.RowKit
set_option linter.unusedVariables false

set_option maxRecDepth 100000 in
set_option maxHeartbeats 4000000 in
theorem walk_skip {x0 x1 x2 x3 h : Int} (o0 : Ok4 [x0, x1, x2, x3]) (hh : h = 3 ∨ h = 4) (w : World) (ht : Tabs w) :
    Calls Tryd.prog 3 #[ag [x0, x1, x2, x3], .int .i64 h] w fun e w' => e = .returned (.bool true) ∧ Below w.heap.size w w' := by
  have CA := Lib.hid (fun w ht => awake6 w ht)
  rw [ag4]
  have HT := Lib.hid ht
  have HK := Lib.hid ((Kx.nil none w).more (.cells #[.int .u32 x0, .int .u32 x1, .int .u32 x2, .int .u32 x3] 24 (0, 0)))
  clear ht
  rcases hh with rfl | rfl
  · go_enter Tryd.func3, Tryd.ntmps3
    go_wp2_with fail
    refine (CA.out _ (HT.out.oldn HK.out)).mono ?_
    rintro e w1 ⟨rfl, hb⟩
    replace HK := Lib.hid (HK.out.after hb)
    clear hb
    go_wp2_with fail
    go_ret
    exact ⟨rfl, HK.out.be.plain⟩
  · go_enter Tryd.func3, Tryd.ntmps3
    go_wp2_with fail
    refine (CA.out _ (HT.out.oldn HK.out)).mono ?_
    rintro e w1 ⟨rfl, hb⟩
    replace HK := Lib.hid (HK.out.after hb)
    clear hb
    go_wp2_with fail
    go_ret
    exact ⟨rfl, HK.out.be.plain⟩
set_option maxRecDepth 100000 in
set_option maxHeartbeats 4000000 in
theorem walk_bad {x0 x1 x2 x3 h : Int} (o0 : Ok4 [x0, x1, x2, x3]) (hh : h < 0 ∨ 4 < h) (w : World) (ht : Tabs w) :
    Calls Tryd.prog 3 #[ag [x0, x1, x2, x3], .int .i64 h] w fun e w' => e = .returned (.bool true) ∧ Below w.heap.size w w' := by
  have CA := Lib.hid (fun w ht => awake6 w ht)
  have c1 := fun w => public6_no _ h w o0 hh
  have c2 := fun w => public6r_no _ h w o0 hh
  have c3 := fun w => new6_no h w o0 hh
  rw [ag4] at c1 c2
  have C1 := Lib.hid c1
  have C2 := Lib.hid c2
  have C3 := Lib.hid c3
  have q4 := eq4s
  have s0 := same_self
  have qs := eqSg
  have e3 : (h == 3) = false := by rw [beq_eq_false_iff_ne]; omega
  have e4 : (h == 4) = false := by rw [beq_eq_false_iff_ne]; omega
  have g3 : ¬ h = 3 := by omega
  have g4 : ¬ h = 4 := by omega
  rw [ag4]
  have HT := Lib.hid ht
  have HK := Lib.hid ((Kx.nil none w).more (.cells #[.int .u32 x0, .int .u32 x1, .int .u32 x2, .int .u32 x3] 24 (0, 0)))
  clear ht c1 c2 c3 hh
  go_enter Tryd.func3, Tryd.ntmps3
  go_wp2_with fail
  refine (CA.out _ (HT.out.oldn HK.out)).mono ?_
  rintro e w1 ⟨rfl, hb⟩
  replace HK := Lib.hid (HK.out.after hb)
  clear hb
  obtain ⟨a0, a1, a2, a3, _⟩ := cells4 (HK.out.at 0 rfl)
  go_wp2_with fail
  refine (C1.out _).mono ?_
  rintro e w2 ⟨rfl, hb⟩
  replace HK := Lib.hid ((HK.out.after hb).more (.cells #[.int .u32 0, .int .u32 0, .int .u32 0, .int .u32 0] 24 (0, 0)))
  clear hb a0 a1 a2 a3
  obtain ⟨a0, a1, a2, a3, _⟩ := cells4 (HK.out.at 0 rfl)
  go_wp2_with fail
  refine (C2.out _).mono ?_
  rintro e w3 ⟨rfl, hb⟩
  replace HK := Lib.hid ((HK.out.after hb).more (.cells #[.int .u32 0, .int .u32 0, .int .u32 0, .int .u32 0] 24 (0, 0)))
  clear hb a0 a1 a2 a3
  obtain ⟨a0, a1, a2, a3, _⟩ := cells4 (HK.out.at 0 rfl)
  go_wp2_with fail
  refine (C3.out _).mono ?_
  rintro e w4 ⟨rfl, hb⟩
  replace HK := Lib.hid ((HK.out.after hb).more (.cells #[.int .u32 0, .int .u32 0, .int .u32 0, .int .u32 0, .int .i64 0, .int .i64 0] 30 (0, 0)))
  clear hb a0 a1 a2 a3
  obtain ⟨a0, a1, a2, a3, _⟩ := cells4 (HK.out.at 0 rfl)
  obtain ⟨b0, b1, b2, b3, _⟩ := cells4 (HK.out.at 1 rfl)
  obtain ⟨c0, c1, c2, c3, _⟩ := cells4 (HK.out.at 2 rfl)
  obtain ⟨d0, d1, d2, d3, d4, d5, _⟩ := cells6 (HK.out.at 3 rfl)
  go_wp2_with fail
  go_ret
  exact ⟨rfl, HK.out.be.plain⟩
set_option maxRecDepth 100000 in
set_option maxHeartbeats 4000000 in
theorem walk_good {x0 x1 x2 x3 : Int} {h : Nat} (o0 : Ok4 [x0, x1, x2, x3]) (hh : h ≤ 2) (w : World) (ht : Tabs w) :
    Calls Tryd.prog 3 #[ag [x0, x1, x2, x3], .int .i64 (h : Int)] w fun e w' => e = .returned (.bool true) ∧ Below w.heap.size w w' := by
  have CA := Lib.hid (fun w ht => awake6 w ht)
  have op := kpub_ok o0 h
  have c1 := fun w ht => public6_yes _ h w o0 (by omega) ht
  have c2 := fun w ht => public6r_yes _ h w o0 (by omega) ht
  have c3 := fun w => new6_yes (h : Int) w o0 (by omega) (by omega)
  obtain ⟨p0, p1, p2, p3, ep, _⟩ := ok4 op
  rw [ep, ag4, ag4] at c1 c2
  have C1 := Lib.hid c1
  have C2 := Lib.hid c2
  have C3 := Lib.hid c3
  have q4 := eq4s
  have s0 := same_self
  have qs := eqSg
  have e3 : ((h : Int) == 3) = false := by rw [beq_eq_false_iff_ne]; omega
  have e4 : ((h : Int) == 4) = false := by rw [beq_eq_false_iff_ne]; omega
  have g3 : ¬ (h : Int) = 3 := by omega
  have g4 : ¬ (h : Int) = 4 := by omega
  have g5 : ¬ h = 3 := by omega
  have g6 : ¬ h = 4 := by omega
  rw [ag4]
  have HT := Lib.hid ht
  have HK := Lib.hid ((Kx.nil none w).more (.cells #[.int .u32 x0, .int .u32 x1, .int .u32 x2, .int .u32 x3] 24 (0, 0)))
  clear ht c1 c2 c3 hh ep op
  go_enter Tryd.func3, Tryd.ntmps3
  go_wp2_with fail
  refine (CA.out _ (HT.out.oldn HK.out)).mono ?_
  rintro e w1 ⟨rfl, hb⟩
  replace HK := Lib.hid (HK.out.after hb)
  clear hb
  obtain ⟨a0, a1, a2, a3, _⟩ := cells4 (HK.out.at 0 rfl)
  go_wp2_with fail
  refine (C1.out _ (HT.out.oldn HK.out)).mono ?_
  rintro e w2 ⟨rfl, hb⟩
  replace HK := Lib.hid ((HK.out.after hb).more (.cells #[.int .u32 p0, .int .u32 p1, .int .u32 p2, .int .u32 p3] 24 (0, 0)))
  clear hb a0 a1 a2 a3
  obtain ⟨a0, a1, a2, a3, _⟩ := cells4 (HK.out.at 0 rfl)
  go_wp2_with fail
  refine (C2.out _ (HT.out.oldn HK.out)).mono ?_
  rintro e w3 ⟨rfl, hb⟩
  replace HK := Lib.hid ((HK.out.after hb).more (.cells #[.int .u32 p0, .int .u32 p1, .int .u32 p2, .int .u32 p3] 24 (0, 0)))
  clear hb a0 a1 a2 a3
  obtain ⟨a0, a1, a2, a3, _⟩ := cells4 (HK.out.at 0 rfl)
  go_wp2_with fail
  refine (C3.out _).mono ?_
  rintro e w4 ⟨rfl, hb⟩
  replace HK := Lib.hid ((HK.out.after hb).more (.cells #[.int .u32 x0, .int .u32 x1, .int .u32 x2, .int .u32 x3, .int .i64 (h : Int), .int .i64 0] 30 (0, 0)))
  clear hb a0 a1 a2 a3
  obtain ⟨a0, a1, a2, a3, _⟩ := cells4 (HK.out.at 0 rfl)
  obtain ⟨b0, b1, b2, b3, _⟩ := cells4 (HK.out.at 1 rfl)
  obtain ⟨c0, c1, c2, c3, _⟩ := cells4 (HK.out.at 2 rfl)
  obtain ⟨d0, d1, d2, d3, d4, d5, _⟩ := cells6 (HK.out.at 3 rfl)
  go_wp2_with fail
  go_ret
  exact ⟨rfl, HK.out.be.plain⟩
theorem walk {x0 x1 x2 x3 h : Int} (o0 : Ok4 [x0, x1, x2, x3]) (w : World) (ht : Tabs w) :
    Calls Tryd.prog 3 #[ag [x0, x1, x2, x3], .int .i64 h] w fun e w' => e = .returned (.bool true) ∧ Below w.heap.size w w' := by
  by_cases h1 : h < 0 ∨ 4 < h
  · exact walk_bad o0 h1 w ht
  · by_cases h2 : h = 3 ∨ h = 4
    · exact walk_skip o0 h2 w ht
    · obtain ⟨n, rfl⟩ : ∃ n : Nat, h = (n : Int) := ⟨h.toNat, by omega⟩
      exact walk_good o0 (by omega) w ht

set_option maxRecDepth 100000 in
theorem contract (H : Type) (enc : TypeId × Value → H) (W : World) (base : Nat) (args : Array Value) (ds gs : List (DataW H)) (before : List MemPlace)
    (hval : ∀ (j : Nat) t v, Tryd.f3.params[j]? = some t → args[j]? = some v → Value.okWide Tryd.prog W .any base t v)
    (hW : DataW.Whole enc Tryd.prog Tryd.f3.params.toList Rows.keysPublicSpec.vars false W args.toList ds gs before) (hL : laidMetH Tryd.prog Rows.keysPublicRow.laid W) :
    Calls Tryd.prog 3 args W fun e W' => ∃ v, e = .returned v ∧ Rows.keysPublicSpec.post enc Tryd.prog Tryd.f3 false true false false W args v W' := by
  have hW' := hW
  obtain ⟨p, q, hA0, hV, rfl, hfz, hnd⟩ := hW
  have hA : DataW.TrodAll enc Tryd.prog W 0 (fun _ => true) true Tryd.f3.params.toList args.toList ds p := hA0
  rw [Tryd.params3] at hA hval
  obtain ⟨v0, vs0, d0, ds0, p0, q0, hargs, rfl, rfl, h0, r0⟩ := trodAll_cons hA
  obtain ⟨v1, vs1, d1, ds1, p1, q1, rfl, rfl, rfl, h1, r1⟩ := trodAll_cons r0
  obtain ⟨rfl, rfl, rfl⟩ := trodAll_nil r1
  obtain rfl : args = #[v0, v1] := by cases args; simp_all
  obtain ⟨rfl, rfl⟩ := trodVars_none hV
  have lt0 : ∀ x ∈ p0, x.block < W.heap.size := by obtain ⟨m, hm⟩ := h0; exact DataW.trod_lt m _ _ _ hm
  obtain ⟨x00, x01, x02, x03, rfl, o0⟩ := open_dig (hval 0 24 v0 rfl rfl) h0
  have lt1 : ∀ x ∈ p1, x.block < W.heap.size := by obtain ⟨m, hm⟩ := h1; exact DataW.trod_lt m _ _ _ hm
  have k1 := h1
  obtain ⟨a1, rfl, _, _, w1⟩ := open_int Tryd.underlying3 (hval 1 3 v1 rfl rfl) k1
  clear hA0
  refine (walk o0 W  (tabs_of hL)).mono fun e W' ⟨he, bel⟩ => ?_
  subst he
  exact ⟨_, rfl, _, _, _, [], _, [], hW', trodAll_mk1 (shut_bool Tryd.underlying4 _), (trodAll_cons_mk (Below.trod laidOut (by kernel_rfl) (of_decide_eq_true (by kernel_rfl)) h0 bel lt0) (trodAll_cons_mk (Below.trod laidOut (by kernel_rfl) (of_decide_eq_true (by kernel_rfl)) h1 bel lt1) trodAll_mk0)), rfl, bel.frame _, fun h => by cases h⟩

theorem laid_met (os : Os) : laidMet Tryd.prog Rows.keysPublicRow.laid ((laidWorld os).forCall (fun _ _ => 0) ⟨#[], #[.agg #[.int .u32 0, .int .u32 0, .int .u32 0, .int .u32 0], .int .i64 0], []⟩).memory :=
  laidMet_of_run' 8 (by kernel_rfl) (by kernel_rfl)
theorem reads (os : Os) {H : Type} (enc : TypeId × Value → H) : ∃ places, DataW.whole enc Tryd.prog ((laidWorld os).forCall (fun _ _ => 0) ⟨#[], #[.agg #[.int .u32 0, .int .u32 0, .int .u32 0, .int .u32 0], .int .i64 0], []⟩).memory Tryd.f3.params.toList Rows.keysPublicSpec.vars false (#[.agg #[.int .u32 0, .int .u32 0, .int .u32 0, .int .u32 0], .int .i64 0] : Array Value).toList 8 = some ([.agg [.lit (.int .u32 0), .lit (.int .u32 0), .lit (.int .u32 0), .lit (.int .u32 0)], .lit (.int .i64 0)], [], places) :=
  ⟨[], by kernel_rfl⟩

set_option maxRecDepth 100000 in
theorem lifted (os : Os) (started : os.Started) (H : Type) (enc : TypeId × Value → H) (F : Stop.Interp) :
    ReturnsInHanded {} Tryd.checked os 3 .any ((OpenSpec.ofChange Rows.keysPublicSpec).preRow enc Tryd.prog Tryd.f3 Rows.keysPublicRow.domain false Rows.keysPublicRow.laid) (((OpenSpec.ofChange Rows.keysPublicSpec).at F).post enc Tryd.prog Tryd.f3 false true false false) := by
  obtain ⟨places, hx⟩ := reads os enc
  refine returnsInHanded_of_row (C := Tryd.checked) (s := OpenSpec.ofChange Rows.keysPublicSpec) own started (by kernel_rfl) Tryd.func3
    (witness_row_at (enc := enc) (C := Tryd.checked) false (laidWorld os) #[.agg #[.int .u32 0, .int .u32 0, .int .u32 0, .int .u32 0], .int .i64 0] rfl (by kernel_rfl) (by kernel_rfl) (by kernel_rfl)
      (OpenSpec.preRow_of_cond 8 hx (by kernel_rfl) (fun k hk => by cases hk) (by kernel_rfl) (laid_met os))) ?_
  intro W base args ds gs before hval hW _ _ _ hL _ _
  exact contract H enc W base args ds gs before hval hW hL

theorem said : Rows.KeysPublicSaid :=
  OpenClaim.holds_of_cond 3 Tryd.f3 rfl rfl rfl rfl rfl rfl rfl ⟨rfl, rfl, rfl, rfl, rfl⟩ rfl rfl rfl rfl rfl (by kernel_rfl) Tryd.func3 (by kernel_rfl)
    (of_decide_eq_true (by kernel_rfl)) (by unfold Func.isWrapper; first | (rw [if_pos (by decide +kernel)]; kernel_rfl) | (rw [if_neg (by decide +kernel)]; exact ⟨rfl, rfl⟩))
    (fun os started H enc _ F => by rw [OpenClaim.pre_eq_preRow]; exact lifted os started H enc F)

theorem plain (f : FuncId) (fn : Func) (hf : Tryd.pinned.checked.prog.funcNamed "seedcorn/seedcornlaw06.KeysPublic" = some f) (hfn : Tryd.pinned.checked.prog.funcs[f]? = some fn) :
    false = Tryd.pinned.checked.prog.looks [] ∧ ∀ (j : Nat) t, fn.params[j]? = some t → Tryd.pinned.checked.prog.wantsStandIn t = false := by
  obtain rfl : f = 3 := Option.some.inj ((show Tryd.prog.funcNamed "seedcorn/seedcornlaw06.KeysPublic" = some 3 by kernel_rfl).symm.trans hf) |>.symm
  obtain rfl : fn = Tryd.f3 := (Option.some.inj (Tryd.func3.symm.trans hfn)).symm
  refine ⟨by kernel_rfl, fun j t ht => ?_⟩
  rw [Tryd.params3] at ht
  have hm := Array.mem_of_getElem? ht
  have hm' : t = 24 ∨ t = 3 := by simpa using hm
  rcases hm' with rfl | rfl
  · exact (show Tryd.prog.wantsStandIn 24 = false by kernel_rfl)
  · exact (show Tryd.prog.wantsStandIn 3 = false by kernel_rfl)

/-- The card. -/
theorem card : Rows.KeysPublicCardSaid :=
  Claim7.holds_tied_plain_at .later [] _ _ _ _ said (fun _ h => by cases h) (by kernel_rfl) (fun _ h => by cases h) keysPublic_row_tie rfl ⟨rfl, rfl⟩ (by kernel_rfl) rfl plain (by kernel_rfl)
end Go.Proofs.YtfbefenagnlnfaaDoor.keysPublic
