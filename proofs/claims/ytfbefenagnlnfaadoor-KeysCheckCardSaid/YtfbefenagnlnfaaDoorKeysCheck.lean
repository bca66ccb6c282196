/- The law KeysCheck: for every key, message and signature it returns true, and all read as before. The tables that it reads hold what the program's text lays (the card ties them). No other condition. -/
import Derived.Test.YtfbefenagnlnfaaDoorKeyQ
import Derived.Test.YtfbefenagnlnfaaDoorKeyW
namespace Go.Proofs.YtfbefenagnlnfaaDoor.keysCheck
open Go.ChangeShapes Go.WideShapes Go.ChangeAt Go.RowKit
set_option linter.unusedVariables false

theorem all3 {w W : World} {p q s : Nat} {t1 t2 t4 : TypeId} {x0 x1 x2 x3 y0 y1 y2 y3 u0 u1 u2 : Value} (h : Kx none w W [(p, .cells #[x0, x1, x2, x3] t1 (0, 0)), (q, .cells #[y0, y1, y2, y3] t2 (0, 0)), (s, .cells #[u0, u1, u2] t4 (0, 0))]) :
    W.cell? ⟨p, 0, none⟩ = some x0 ∧ W.cell? ⟨p, 1, none⟩ = some x1 ∧ W.cell? ⟨p, 2, none⟩ = some x2 ∧ W.cell? ⟨p, 3, none⟩ = some x3 ∧ W.cell? ⟨q, 0, none⟩ = some y0 ∧ W.cell? ⟨q, 1, none⟩ = some y1 ∧ W.cell? ⟨q, 2, none⟩ = some y2 ∧ W.cell? ⟨q, 3, none⟩ = some y3 ∧ W.cell? ⟨s, 0, none⟩ = some u0 ∧ W.cell? ⟨s, 1, none⟩ = some u1 ∧ W.cell? ⟨s, 2, none⟩ = some u2 := by
  obtain ⟨a0, a1, a2, a3, _⟩ := cells4 (h.at 0 rfl)
  obtain ⟨b0, b1, b2, b3, _⟩ := cells4 (h.at 1 rfl)
  obtain ⟨d0, d1, d2, _⟩ := cells3 (h.at 2 rfl)
  exact ⟨a0, a1, a2, a3, b0, b1, b2, b3, d0, d1, d2⟩
set_option maxRecDepth 100000 in
set_option maxHeartbeats 4000000 in
theorem walk_one {x0 x1 x2 x3 y0 y1 y2 y3 idx : Int} {one path : Dl} {v : Value} (o0 : Ok4 [x0, x1, x2, x3]) (o1 : Ok4 [y0, y1, y2, y3]) (w : World) (hv : SgV w v idx one path) (hc : 40 < one.length) (ht : Tabs w) :
    Calls Tryd.prog 5 #[ag [x0, x1, x2, x3], ag [y0, y1, y2, y3], v] w fun e w' => e = .returned (.bool true) ∧ Below w.heap.size w w' := by
  have CA := Lib.hid (fun w ht => awake6 w ht)
  have hv0 := hv
  obtain ⟨A, n, c, B, m, d, rfl, ⟨l1, n1, n2, d1⟩, ⟨k1, k2, k3, e1⟩⟩ := hv
  have i0 : (40 : Int) < (n : Int) := by omega
  rw [ag4, ag4]
  have HT := Lib.hid ht
  have HK := Lib.hid (Kc3.new w x0 x1 x2 x3 y0 y1 y2 y3 idx (.slice A n c) (.slice B m d))
  clear ht hv0 l1 n1 n2 d1 k1 k2 k3 e1 hc
  go_enter Tryd.func5, Tryd.ntmps5
  go_wp2_with fail
  refine (CA.out _ (HT.out.oldn HK.out)).mono ?_
  rintro e w1 ⟨rfl, hb⟩
  replace HK := Lib.hid (HK.out.after hb)
  clear hb
  obtain ⟨c0, c1, c2, _⟩ := cells3 (HK.out.at 2 rfl)
  go_wp2_with fail
  go_ret
  exact ⟨rfl, HK.out.be.plain⟩
set_option maxRecDepth 100000 in
set_option maxHeartbeats 4000000 in
theorem walk_path {x0 x1 x2 x3 y0 y1 y2 y3 idx : Int} {one path : Dl} {v : Value} (o0 : Ok4 [x0, x1, x2, x3]) (o1 : Ok4 [y0, y1, y2, y3]) (w : World) (hv : SgV w v idx one path) (hc : one.length ≤ 40) (hp : 6 < path.length) (ht : Tabs w) :
    Calls Tryd.prog 5 #[ag [x0, x1, x2, x3], ag [y0, y1, y2, y3], v] w fun e w' => e = .returned (.bool true) ∧ Below w.heap.size w w' := by
  have CA := Lib.hid (fun w ht => awake6 w ht)
  have hv0 := hv
  obtain ⟨A, n, c, B, m, d, rfl, ⟨l1, n1, n2, d1⟩, ⟨k1, k2, k3, e1⟩⟩ := hv
  have i0 : ¬ (40 : Int) < (n : Int) := by omega
  have i1 : (6 : Int) < (m : Int) := by omega
  rw [ag4, ag4]
  have HT := Lib.hid ht
  have HK := Lib.hid (Kc3.new w x0 x1 x2 x3 y0 y1 y2 y3 idx (.slice A n c) (.slice B m d))
  clear ht hv0 l1 n1 n2 d1 k1 k2 k3 e1 hc hp
  go_enter Tryd.func5, Tryd.ntmps5
  go_wp2_with fail
  refine (CA.out _ (HT.out.oldn HK.out)).mono ?_
  rintro e w1 ⟨rfl, hb⟩
  replace HK := Lib.hid (HK.out.after hb)
  clear hb
  obtain ⟨c0, c1, c2, _⟩ := cells3 (HK.out.at 2 rfl)
  go_wp2_with fail
  go_ret
  exact ⟨rfl, HK.out.be.plain⟩
set_option maxRecDepth 100000 in
set_option maxHeartbeats 4000000 in
theorem walk_long {x0 x1 x2 x3 y0 y1 y2 y3 idx : Int} {one path : Dl} {v : Value} (o0 : Ok4 [x0, x1, x2, x3]) (o1 : Ok4 [y0, y1, y2, y3]) (w : World) (hv : SgV w v idx one path) (hc : one.length ≤ 40) (hp : path.length ≤ 6) (ht : Tabs w) :
    Calls Tryd.prog 5 #[ag [x0, x1, x2, x3], ag [y0, y1, y2, y3], v] w fun e w' => e = .returned (.bool true) ∧ Below w.heap.size w w' := by
  have CA := Lib.hid (fun w ht => awake6 w ht)
  have hv0 := hv
  obtain ⟨A, n, c, B, m, d, rfl, ⟨l1, n1, n2, d1⟩, ⟨k1, k2, k3, e1⟩⟩ := hv
  have i0 : ¬ (40 : Int) < (n : Int) := by omega
  have i1 : ¬ (6 : Int) < (m : Int) := by omega
  have c1 := fun (w : World) hv ht => check6 (v := .agg #[.int .i64 idx, .slice A n c, .slice B m d]) (idx := idx) (one := one) (path := path) w o0 o1 hv ht
  have c2 := fun (w : World) hv => check6r (v := .agg #[.int .i64 idx, .slice A n c, .slice B m d]) (idx := idx) (one := one) (path := path) w o0 o1 hv
  obtain ⟨bb, hbb⟩ : ∃ bb, khd [x0, x1, x2, x3] [y0, y1, y2, y3] idx one path = bb := ⟨_, rfl⟩
  rw [hbb, ag4, ag4] at c1 c2
  have C1 := Lib.hid c1
  have C2 := Lib.hid c2
  have HV := Lib.hid (hv0.kept (Kc3.new w x0 x1 x2 x3 y0 y1 y2 y3 idx (.slice A n c) (.slice B m d)).be.plain)
  have s1 : (bb == bb) = true := by simp
  rw [ag4, ag4]
  have HT := Lib.hid ht
  have HK := Lib.hid (Kc3.new w x0 x1 x2 x3 y0 y1 y2 y3 idx (.slice A n c) (.slice B m d))
  clear ht hv0 l1 n1 n2 d1 k1 k2 k3 e1 hc hp c1 c2 hbb
  go_enter Tryd.func5, Tryd.ntmps5
  go_wp2_with fail
  refine (CA.out _ (HT.out.oldn HK.out)).mono ?_
  rintro e w1 ⟨rfl, hb⟩
  replace HK := Lib.hid (HK.out.after hb)
  replace HV := Lib.hid (HV.out.kept hb)
  clear hb
  obtain ⟨c0, c1, c2, _⟩ := cells3 (HK.out.at 2 rfl)
  go_wp2_with fail
  replace HK := Lib.hid HK.out.drew
  replace HV := Lib.hid (HV.out.kept (Below.refl _ _).drew)
  go_region_held3 (fun W => W.cell? ⟨w.heap.size, 0, none⟩ = some (.int .u32 x0) ∧ W.cell? ⟨w.heap.size, 1, none⟩ = some (.int .u32 x1) ∧ W.cell? ⟨w.heap.size, 2, none⟩ = some (.int .u32 x2) ∧ W.cell? ⟨w.heap.size, 3, none⟩ = some (.int .u32 x3) ∧ W.cell? ⟨w.heap.size + 1, 0, none⟩ = some (.int .u32 y0) ∧ W.cell? ⟨w.heap.size + 1, 1, none⟩ = some (.int .u32 y1) ∧ W.cell? ⟨w.heap.size + 1, 2, none⟩ = some (.int .u32 y2) ∧ W.cell? ⟨w.heap.size + 1, 3, none⟩ = some (.int .u32 y3) ∧ W.cell? ⟨w.heap.size + 1 + 1, 0, none⟩ = some (.int .i64 idx) ∧ W.cell? ⟨w.heap.size + 1 + 1, 1, none⟩ = some (.slice A n c) ∧ W.cell? ⟨w.heap.size + 1 + 1, 2, none⟩ = some (.slice B m d))
    (exact all3 HK.out)
    (first
      | (go_at_call 17; with_reducible refine (C1.out _ HV.out (HT.out.oldn HK.out)).mono ?_; rintro e w' ⟨rfl, hb⟩; replace HK := Lib.hid (HK.out.after hb); replace HV := Lib.hid (HV.out.kept hb); clear hb)
      | (go_at_call 18; with_reducible refine (C2.out _ HV.out).mono ?_; rintro e w' ⟨rfl, hb⟩; replace HK := Lib.hid (HK.out.after hb); replace HV := Lib.hid (HV.out.kept hb); clear hb))
  all_goals
    go_wp2_with fail
    go_ret
    exact ⟨rfl, HK.out.be.plain⟩
theorem walk {x0 x1 x2 x3 y0 y1 y2 y3 idx : Int} {one path : Dl} {v : Value} (o0 : Ok4 [x0, x1, x2, x3]) (o1 : Ok4 [y0, y1, y2, y3]) (w : World) (hv : SgV w v idx one path) (ht : Tabs w) :
    Calls Tryd.prog 5 #[ag [x0, x1, x2, x3], ag [y0, y1, y2, y3], v] w fun e w' => e = .returned (.bool true) ∧ Below w.heap.size w w' := by
  by_cases h : one.length ≤ 40
  · by_cases h2 : path.length ≤ 6
    · exact walk_long o0 o1 w hv h h2 ht
    · exact walk_path o0 o1 w hv h (by omega) ht
  · exact walk_one o0 o1 w hv (by omega) ht

set_option maxRecDepth 100000 in
theorem contract (H : Type) (enc : TypeId × Value → H) (W : World) (base : Nat) (args : Array Value) (ds gs : List (DataW H)) (before : List MemPlace)
    (hval : ∀ (j : Nat) t v, Tryd.f5.params[j]? = some t → args[j]? = some v → Value.okWide Tryd.prog W .any base t v)
    (hW : DataW.Whole enc Tryd.prog Tryd.f5.params.toList Rows.keysCheckSpec.vars false W args.toList ds gs before) (hL : laidMetH Tryd.prog Rows.keysCheckRow.laid W) :
    Calls Tryd.prog 5 args W fun e W' => ∃ v, e = .returned v ∧ Rows.keysCheckSpec.post enc Tryd.prog Tryd.f5 false true false false W args v W' := by
  have hW' := hW
  obtain ⟨p, q, hA0, hV, rfl, hfz, hnd⟩ := hW
  have hA : DataW.TrodAll enc Tryd.prog W 0 (fun _ => true) true Tryd.f5.params.toList args.toList ds p := hA0
  rw [Tryd.params5] at hA hval
  obtain ⟨v0, vs0, d0, ds0, p0, q0, hargs, rfl, rfl, h0, r0⟩ := trodAll_cons hA
  obtain ⟨v1, vs1, d1, ds1, p1, q1, rfl, rfl, rfl, h1, r1⟩ := trodAll_cons r0
  obtain ⟨v2, vs2, d2, ds2, p2, q2, rfl, rfl, rfl, h2, r2⟩ := trodAll_cons r1
  obtain ⟨rfl, rfl, rfl⟩ := trodAll_nil r2
  obtain rfl : args = #[v0, v1, v2] := by cases args; simp_all
  obtain ⟨rfl, rfl⟩ := trodVars_none hV
  have lt0 : ∀ x ∈ p0, x.block < W.heap.size := by obtain ⟨m, hm⟩ := h0; exact DataW.trod_lt m _ _ _ hm
  obtain ⟨x00, x01, x02, x03, rfl, o0⟩ := open_dig (hval 0 24 v0 rfl rfl) h0
  have lt1 : ∀ x ∈ p1, x.block < W.heap.size := by obtain ⟨m, hm⟩ := h1; exact DataW.trod_lt m _ _ _ hm
  obtain ⟨x10, x11, x12, x13, rfl, o1⟩ := open_dig (hval 1 24 v1 rfl rfl) h1
  have lt2 : ∀ x ∈ p2, x.block < W.heap.size := by obtain ⟨m, hm⟩ := h2; exact DataW.trod_lt m _ _ _ hm
  have hG2 := open_sig (hval 2 38 v2 rfl rfl) h2
  clear hA0
  obtain ⟨I, A, n, c, l, B, m, d, k, rfl, _, hS, hL2⟩ := hG2
  refine (walk o0 o1 W ⟨A, n, c, B, m, d, rfl, hS, hL2⟩ (tabs_of hL)).mono fun e W' ⟨he, bel⟩ => ?_
  subst he
  exact ⟨_, rfl, _, _, _, [], _, [], hW', trodAll_mk1 (shut_bool Tryd.underlying4 _), (trodAll_cons_mk (Below.trod laidOut (by kernel_rfl) (of_decide_eq_true (by kernel_rfl)) h0 bel lt0) (trodAll_cons_mk (Below.trod laidOut (by kernel_rfl) (of_decide_eq_true (by kernel_rfl)) h1 bel lt1) (trodAll_cons_mk (Below.trod laidOut (by kernel_rfl) (of_decide_eq_true (by kernel_rfl)) h2 bel lt2) trodAll_mk0))), rfl, bel.frame _, fun h => by cases h⟩

theorem laid_met (os : Os) : laidMet Tryd.prog Rows.keysCheckRow.laid ((laidWorld os).forCall (fun _ _ => 0) ⟨#[], #[.agg #[.int .u32 0, .int .u32 0, .int .u32 0, .int .u32 0], .agg #[.int .u32 0, .int .u32 0, .int .u32 0, .int .u32 0], .agg #[.int .i64 0, .slice none 0 0, .slice none 0 0]], []⟩).memory :=
  laidMet_of_run' 8 (by kernel_rfl) (by kernel_rfl)
theorem reads (os : Os) {H : Type} (enc : TypeId × Value → H) : ∃ places, DataW.whole enc Tryd.prog ((laidWorld os).forCall (fun _ _ => 0) ⟨#[], #[.agg #[.int .u32 0, .int .u32 0, .int .u32 0, .int .u32 0], .agg #[.int .u32 0, .int .u32 0, .int .u32 0, .int .u32 0], .agg #[.int .i64 0, .slice none 0 0, .slice none 0 0]], []⟩).memory Tryd.f5.params.toList Rows.keysCheckSpec.vars false (#[.agg #[.int .u32 0, .int .u32 0, .int .u32 0, .int .u32 0], .agg #[.int .u32 0, .int .u32 0, .int .u32 0, .int .u32 0], .agg #[.int .i64 0, .slice none 0 0, .slice none 0 0]] : Array Value).toList 8 = some ([.agg [.lit (.int .u32 0), .lit (.int .u32 0), .lit (.int .u32 0), .lit (.int .u32 0)], .agg [.lit (.int .u32 0), .lit (.int .u32 0), .lit (.int .u32 0), .lit (.int .u32 0)], .agg [.lit (.int .i64 0), .nil, .nil]], [], places) :=
  ⟨[], by kernel_rfl⟩

set_option maxRecDepth 100000 in
theorem lifted (os : Os) (started : os.Started) (H : Type) (enc : TypeId × Value → H) (F : Stop.Interp) :
    ReturnsInHanded {} Tryd.checked os 5 .any ((OpenSpec.ofChange Rows.keysCheckSpec).preRow enc Tryd.prog Tryd.f5 Rows.keysCheckRow.domain false Rows.keysCheckRow.laid) (((OpenSpec.ofChange Rows.keysCheckSpec).at F).post enc Tryd.prog Tryd.f5 false true false false) := by
  obtain ⟨places, hx⟩ := reads os enc
  refine returnsInHanded_of_row (C := Tryd.checked) (s := OpenSpec.ofChange Rows.keysCheckSpec) own started (by kernel_rfl) Tryd.func5
    (witness_row_at (enc := enc) (C := Tryd.checked) false (laidWorld os) #[.agg #[.int .u32 0, .int .u32 0, .int .u32 0, .int .u32 0], .agg #[.int .u32 0, .int .u32 0, .int .u32 0, .int .u32 0], .agg #[.int .i64 0, .slice none 0 0, .slice none 0 0]] rfl (by kernel_rfl) (by kernel_rfl) (by kernel_rfl)
      (OpenSpec.preRow_of_cond 8 hx (by kernel_rfl) (fun k hk => by cases hk) (by kernel_rfl) (laid_met os))) ?_
  intro W base args ds gs before hval hW _ _ _ hL _ _
  exact contract H enc W base args ds gs before hval hW hL

theorem said : Rows.KeysCheckSaid :=
  OpenClaim.holds_of_cond 5 Tryd.f5 rfl rfl rfl rfl rfl rfl rfl ⟨rfl, rfl, rfl, rfl, rfl⟩ rfl rfl rfl rfl rfl (by kernel_rfl) Tryd.func5 (by kernel_rfl)
    (of_decide_eq_true (by kernel_rfl)) (by unfold Func.isWrapper; first | (rw [if_pos (by decide +kernel)]; kernel_rfl) | (rw [if_neg (by decide +kernel)]; exact ⟨rfl, rfl⟩))
    (fun os started H enc _ F => by rw [OpenClaim.pre_eq_preRow]; exact lifted os started H enc F)

theorem plain (f : FuncId) (fn : Func) (hf : Tryd.pinned.checked.prog.funcNamed "seedcorn/seedcornlaw06.KeysCheck" = some f) (hfn : Tryd.pinned.checked.prog.funcs[f]? = some fn) :
    false = Tryd.pinned.checked.prog.looks [] ∧ ∀ (j : Nat) t, fn.params[j]? = some t → Tryd.pinned.checked.prog.wantsStandIn t = false := by
  obtain rfl : f = 5 := Option.some.inj ((show Tryd.prog.funcNamed "seedcorn/seedcornlaw06.KeysCheck" = some 5 by kernel_rfl).symm.trans hf) |>.symm
  obtain rfl : fn = Tryd.f5 := (Option.some.inj (Tryd.func5.symm.trans hfn)).symm
  refine ⟨by kernel_rfl, fun j t ht => ?_⟩
  rw [Tryd.params5] at ht
  have hm := Array.mem_of_getElem? ht
  have hm' : t = 24 ∨ t = 38 := by simpa using hm
  rcases hm' with rfl | rfl
  · exact (show Tryd.prog.wantsStandIn 24 = false by kernel_rfl)
  · exact (show Tryd.prog.wantsStandIn 38 = false by kernel_rfl)

/-- The card. -/
theorem card : Rows.KeysCheckCardSaid :=
  Claim7.holds_tied_plain_at .later [] _ _ _ _ said (fun _ h => by cases h) (by kernel_rfl) (fun _ h => by cases h) keysCheck_row_tie rfl ⟨rfl, rfl⟩ (by kernel_rfl) rfl plain (by kernel_rfl)
end Go.Proofs.YtfbefenagnlnfaaDoor.keysCheck
