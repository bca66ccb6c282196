/- The law OnetimeKeys: for every seed and every message it returns true, and both read as before. The two tables that it reads hold what the program's text lays (the card ties them). No other condition. -/
import Derived.Test.YtnobnnbckehikaaDoorOneW
import Derived.Test.YtnobnnbckehikaaDoorOneQ
namespace Go.Proofs.YtnobnnbckehikaaDoor.onetimeKeys
open Go.ChangeShapes Go.WideShapes Go.ChangeAt Go.RowKit
set_option linter.unusedVariables false

theorem all2 {w W : World} {n0 n1 : Nat} {x0 x1 x2 x3 y0 y1 y2 y3 : Int} (h : Kx none w W [(n0, .cells #[.int .u32 x0, .int .u32 x1, .int .u32 x2, .int .u32 x3] 24 (0, 0)), (n1, .cells #[.int .u32 y0, .int .u32 y1, .int .u32 y2, .int .u32 y3] 24 (0, 0))]) : W.cell? ⟨n0, 0, none⟩ = some (.int .u32 x0) ∧ W.cell? ⟨n0, 1, none⟩ = some (.int .u32 x1) ∧ W.cell? ⟨n0, 2, none⟩ = some (.int .u32 x2) ∧ W.cell? ⟨n0, 3, none⟩ = some (.int .u32 x3) ∧ W.cell? ⟨n1, 0, none⟩ = some (.int .u32 y0) ∧ W.cell? ⟨n1, 1, none⟩ = some (.int .u32 y1) ∧ W.cell? ⟨n1, 2, none⟩ = some (.int .u32 y2) ∧ W.cell? ⟨n1, 3, none⟩ = some (.int .u32 y3) := by
  obtain ⟨kx0, kx1, kx2, kx3, _⟩ := cells4 (h.at 0 rfl)
  obtain ⟨ky0, ky1, ky2, ky3, _⟩ := cells4 (h.at 1 rfl)
  exact ⟨kx0, kx1, kx2, kx3, ky0, ky1, ky2, ky3⟩
set_option maxRecDepth 100000 in
set_option maxHeartbeats 4000000 in
theorem walk {x0 x1 x2 x3 y0 y1 y2 y3 : Int} (o0 : Ok4 [x0, x1, x2, x3]) (o1 : Ok4 [y0, y1, y2, y3]) (w : World) (ht : Tabs w) :
    Calls Tryd.prog 4 #[ag [x0, x1, x2, x3], ag [y0, y1, y2, y3]] w fun e w' => e = .returned (.bool true) ∧ Below w.heap.size w w' := by
  have o := pubk_ok o0
  have c1 := fun w ht => public_code _ w o0 ht
  have c2 := fun w => public_ref _ w o0
  have c3 := fun w ht => sign_codex _ _ w o0 o1 ht
  have c4 := fun w => sign_refx _ _ w o0 o1
  have hl := sgn_length [x0, x1, x2, x3] [y0, y1, y2, y3]
  have hs : ∀ (A B : Option Addr) (c1 c2 : Nat) (w : World), Dd w A (sgn [x0, x1, x2, x3] [y0, y1, y2, y3]) → Dd w B (sgn [x0, x1, x2, x3] [y0, y1, y2, y3]) → Calls Tryd.prog 16 #[.slice A 35 c1, .slice B 35 c2] w fun e w' => e = .returned (.bool true) ∧ Below w.heap.size w w' := fun A B c1 c2 w d1 d2 => by
    have := samer (c1 := c1) (c2 := c2) w hl hl (by omega) d1 d2
    rw [sameL_yes] at this
    exact this
  obtain ⟨p0, p1, p2, p3, ep, _⟩ := ok4 o
  rw [ep] at c1 c2
  rw [ag4, ag4] at c1 c2 c3 c4
  rw [ag4, ag4]
  have C1 := Lib.hid c1
  have C2 := Lib.hid c2
  have C3 := Lib.hid c3
  have C4 := Lib.hid c4
  have C5 := Lib.hid hs
  have HT := Lib.hid ht
  have HK := Lib.hid (((Kx.nil none w).add (w.heap.size) (by simp) (.cells #[.int .u32 x0, .int .u32 x1, .int .u32 x2, .int .u32 x3] 24 (0, 0))).add (w.heap.size + 1) (by simp) (.cells #[.int .u32 y0, .int .u32 y1, .int .u32 y2, .int .u32 y3] 24 (0, 0))).drew
  have q4 := eq4s
  have s0 := same_self
  clear c1 c2 c3 c4 ht hl hs ep o
  go_enter Tryd.func4, Tryd.ntmps4
  go_wp2_with fail
  go_region_held3 (fun W => W.cell? ⟨w.heap.size, 0, none⟩ = some (.int .u32 x0) ∧ W.cell? ⟨w.heap.size, 1, none⟩ = some (.int .u32 x1) ∧ W.cell? ⟨w.heap.size, 2, none⟩ = some (.int .u32 x2) ∧ W.cell? ⟨w.heap.size, 3, none⟩ = some (.int .u32 x3) ∧ W.cell? ⟨w.heap.size + 1, 0, none⟩ = some (.int .u32 y0) ∧ W.cell? ⟨w.heap.size + 1, 1, none⟩ = some (.int .u32 y1) ∧ W.cell? ⟨w.heap.size + 1, 2, none⟩ = some (.int .u32 y2) ∧ W.cell? ⟨w.heap.size + 1, 3, none⟩ = some (.int .u32 y3))
    (with_reducible exact all2 HK.out)
    (first
      | (go_at_call 10; with_reducible refine (awake_any _ (HT.out.oldn HK.out)).mono ?_; rintro e w' ⟨rfl, hb⟩; replace HK := Lib.hid (HK.out.after hb); clear hb)
      | (go_at_call 14; with_reducible refine (C1.out _ (HT.out.oldn HK.out)).mono ?_; rintro e w' ⟨rfl, hb⟩; replace HK := Lib.hid (HK.out.after hb); clear hb)
      | (go_at_call 15; with_reducible refine (C2.out _).mono ?_; rintro e w' ⟨rfl, hb⟩; replace HK := Lib.hid (HK.out.after hb); clear hb)
      | (go_at_call 17; with_reducible refine (C3.out _ (HT.out.oldn HK.out)).mono ?_; rintro e w' ⟨g1, c1, rfl, hc1, _, hdr, _, hb⟩; have HD1 := Lib.hid hdr; clear hdr; replace HK := Lib.hid (HK.out.after hb); clear hb)
      | (go_at_call 18; with_reducible refine (C4.out _).mono ?_; rintro e w' ⟨g2, c2, rfl, hc2, _, hdr, _, hb⟩; have HD2 := Lib.hid hdr; clear hdr; replace HK := Lib.hid (HK.out.after hb); replace HD1 := Lib.hid (HD1.out.kept hb); clear hb)
      | (go_at_call 16; with_reducible refine (C5.out _ _ _ _ _ (Dd.row HD1.out) (Dd.row HD2.out)).mono ?_; rintro e w' ⟨rfl, hb⟩; replace HK := Lib.hid (HK.out.after hb); clear hb))
  all_goals
    go_wp2_with fail
    go_ret
    exact ⟨rfl, HK.out.be.plain⟩

set_option maxRecDepth 100000 in
theorem contract (H : Type) (enc : TypeId × Value → H) (W : World) (base : Nat) (args : Array Value) (ds gs : List (DataW H)) (before : List MemPlace)
    (hval : ∀ (j : Nat) t v, Tryd.f4.params[j]? = some t → args[j]? = some v → Value.okWide Tryd.prog W .any base t v)
    (hW : DataW.Whole enc Tryd.prog Tryd.f4.params.toList Rows.onetimeKeysSpec.vars false W args.toList ds gs before) (hL : laidMetH Tryd.prog Rows.onetimeKeysRow.laid W) :
    Calls Tryd.prog 4 args W fun e W' => ∃ v, e = .returned v ∧ Rows.onetimeKeysSpec.post enc Tryd.prog Tryd.f4 false true false false W args v W' := by
  have hW' := hW
  obtain ⟨p, q, hA0, hV, rfl, hfz, hnd⟩ := hW
  have hA : DataW.TrodAll enc Tryd.prog W 0 (fun _ => true) true Tryd.f4.params.toList args.toList ds p := hA0
  rw [Tryd.params4] at hA hval
  obtain ⟨v0, vs0, d0, ds0, p0, q0, hargs, rfl, rfl, h0, r0⟩ := trodAll_cons hA
  obtain ⟨v1, vs1, d1, ds1, p1, q1, rfl, rfl, rfl, h1, r1⟩ := trodAll_cons r0
  obtain ⟨rfl, rfl, rfl⟩ := trodAll_nil r1
  obtain rfl : args = #[v0, v1] := by cases args; simp_all
  obtain ⟨rfl, rfl⟩ := trodVars_none hV
  have lt0 : ∀ x ∈ p0, x.block < W.heap.size := by obtain ⟨m, hm⟩ := h0; exact DataW.trod_lt m _ _ _ hm
  obtain ⟨x00, x01, x02, x03, rfl, o0⟩ := open_dig (hval 0 24 v0 rfl rfl) h0
  have lt1 : ∀ x ∈ p1, x.block < W.heap.size := by obtain ⟨m, hm⟩ := h1; exact DataW.trod_lt m _ _ _ hm
  obtain ⟨x10, x11, x12, x13, rfl, o1⟩ := open_dig (hval 1 24 v1 rfl rfl) h1
  clear hA0
  refine (walk o0 o1 W  (tabs_of hL)).mono fun e W' ⟨he, bel⟩ => ?_
  subst he
  exact ⟨_, rfl, _, _, _, [], _, [], hW', trodAll_mk1 (shut_bool Tryd.underlying4 _), (trodAll_cons_mk (Below.trod laidOut (by kernel_rfl) (of_decide_eq_true (by kernel_rfl)) h0 bel lt0) (trodAll_cons_mk (Below.trod laidOut (by kernel_rfl) (of_decide_eq_true (by kernel_rfl)) h1 bel lt1) trodAll_mk0)), rfl, bel.frame _, fun h => by cases h⟩

theorem laid_met (os : Os) : laidMet Tryd.prog Rows.onetimeKeysRow.laid ((laidWorld os).forCall (fun _ _ => 0) ⟨#[], #[.agg #[.int .u32 0, .int .u32 0, .int .u32 0, .int .u32 0], .agg #[.int .u32 0, .int .u32 0, .int .u32 0, .int .u32 0]], []⟩).memory :=
  laidMet_of_run' 8 (by kernel_rfl) (by kernel_rfl)
theorem reads (os : Os) {H : Type} (enc : TypeId × Value → H) : ∃ places, DataW.whole enc Tryd.prog ((laidWorld os).forCall (fun _ _ => 0) ⟨#[], #[.agg #[.int .u32 0, .int .u32 0, .int .u32 0, .int .u32 0], .agg #[.int .u32 0, .int .u32 0, .int .u32 0, .int .u32 0]], []⟩).memory Tryd.f4.params.toList Rows.onetimeKeysSpec.vars false (#[.agg #[.int .u32 0, .int .u32 0, .int .u32 0, .int .u32 0], .agg #[.int .u32 0, .int .u32 0, .int .u32 0, .int .u32 0]] : Array Value).toList 8 = some ([.agg [.lit (.int .u32 0), .lit (.int .u32 0), .lit (.int .u32 0), .lit (.int .u32 0)], .agg [.lit (.int .u32 0), .lit (.int .u32 0), .lit (.int .u32 0), .lit (.int .u32 0)]], [], places) :=
  ⟨[], by kernel_rfl⟩

set_option maxRecDepth 100000 in
theorem lifted (os : Os) (started : os.Started) (H : Type) (enc : TypeId × Value → H) (F : Stop.Interp) :
    ReturnsInHanded {} Tryd.checked os 4 .any ((OpenSpec.ofChange Rows.onetimeKeysSpec).preRow enc Tryd.prog Tryd.f4 Rows.onetimeKeysRow.domain false Rows.onetimeKeysRow.laid) (((OpenSpec.ofChange Rows.onetimeKeysSpec).at F).post enc Tryd.prog Tryd.f4 false true false false) := by
  obtain ⟨places, hx⟩ := reads os enc
  refine returnsInHanded_of_row (C := Tryd.checked) (s := OpenSpec.ofChange Rows.onetimeKeysSpec) own started (by kernel_rfl) Tryd.func4
    (witness_row_at (enc := enc) (C := Tryd.checked) false (laidWorld os) #[.agg #[.int .u32 0, .int .u32 0, .int .u32 0, .int .u32 0], .agg #[.int .u32 0, .int .u32 0, .int .u32 0, .int .u32 0]] rfl (by kernel_rfl) (by kernel_rfl) (by kernel_rfl)
      (OpenSpec.preRow_of_cond 8 hx (by kernel_rfl) (fun k hk => by cases hk) (by kernel_rfl) (laid_met os))) ?_
  intro W base args ds gs before hval hW _ _ _ hL _ _
  exact contract H enc W base args ds gs before hval hW hL

theorem said : Rows.OnetimeKeysSaid :=
  OpenClaim.holds_of_cond 4 Tryd.f4 rfl rfl rfl rfl rfl rfl rfl ⟨rfl, rfl, rfl, rfl, rfl⟩ rfl rfl rfl rfl rfl (by kernel_rfl) Tryd.func4 (by kernel_rfl)
    (of_decide_eq_true (by kernel_rfl)) (by unfold Func.isWrapper; first | (rw [if_pos (by decide +kernel)]; kernel_rfl) | (rw [if_neg (by decide +kernel)]; exact ⟨rfl, rfl⟩))
    (fun os started H enc _ F => by rw [OpenClaim.pre_eq_preRow]; exact lifted os started H enc F)

theorem plain (f : FuncId) (fn : Func) (hf : Tryd.pinned.checked.prog.funcNamed "seedcorn/seedcornlaw05.OnetimeKeys" = some f) (hfn : Tryd.pinned.checked.prog.funcs[f]? = some fn) :
    false = Tryd.pinned.checked.prog.looks [] ∧ ∀ (j : Nat) t, fn.params[j]? = some t → Tryd.pinned.checked.prog.wantsStandIn t = false := by
  obtain rfl : f = 4 := Option.some.inj ((show Tryd.prog.funcNamed "seedcorn/seedcornlaw05.OnetimeKeys" = some 4 by kernel_rfl).symm.trans hf) |>.symm
  obtain rfl : fn = Tryd.f4 := (Option.some.inj (Tryd.func4.symm.trans hfn)).symm
  refine ⟨by kernel_rfl, fun j t ht => ?_⟩
  rw [Tryd.params4] at ht
  have hm := Array.mem_of_getElem? ht
  have hm' : t = 24 := by simpa using hm
  rcases hm' with rfl
  · exact (show Tryd.prog.wantsStandIn 24 = false by kernel_rfl)

/-- The card. -/
theorem card : Rows.OnetimeKeysCardSaid :=
  Claim7.holds_tied_plain_at .later [] _ _ _ _ said (fun _ h => by cases h) (by kernel_rfl) (fun _ h => by cases h) onetimeKeys_row_tie rfl ⟨rfl, rfl⟩ (by kernel_rfl) rfl plain (by kernel_rfl)
end Go.Proofs.YtnobnnbckehikaaDoor.onetimeKeys
