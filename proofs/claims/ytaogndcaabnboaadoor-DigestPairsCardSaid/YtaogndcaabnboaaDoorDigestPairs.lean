/- The law DigestPairs: for every two digests it returns true, and both read as before. The tables that it reads hold what the program's text lays (the card ties them). No other condition. -/
import Derived.Test.YtaogndcaabnboaaDoorDigL
namespace Go.Proofs.YtaogndcaabnboaaDoor.digestPairs
open Go.ChangeShapes Go.WideShapes Go.ChangeAt Go.RowKit
open Go.ChangeMaps (open_string shut_string)
set_option linter.unusedVariables false

theorem all4 {w W : World} {x0 x1 x2 x3 y0 y1 y2 y3 : Int} (h : Kq w W w.heap.size (w.heap.size + 1) (.cells #[.int .u32 x0, .int .u32 x1, .int .u32 x2, .int .u32 x3] 29 (0, 0)) (.cells #[.int .u32 y0, .int .u32 y1, .int .u32 y2, .int .u32 y3] 29 (0, 0))) : Kq w W w.heap.size (w.heap.size + 1) (.cells #[.int .u32 x0, .int .u32 x1, .int .u32 x2, .int .u32 x3] 29 (0, 0)) (.cells #[.int .u32 y0, .int .u32 y1, .int .u32 y2, .int .u32 y3] 29 (0, 0)) ∧ W.cell? ⟨w.heap.size, 0, none⟩ = some (.int .u32 x0) ∧ W.cell? ⟨w.heap.size, 1, none⟩ = some (.int .u32 x1) ∧ W.cell? ⟨w.heap.size, 2, none⟩ = some (.int .u32 x2) ∧ W.cell? ⟨w.heap.size, 3, none⟩ = some (.int .u32 x3) ∧ W.cell? ⟨w.heap.size + 1, 0, none⟩ = some (.int .u32 y0) ∧ W.cell? ⟨w.heap.size + 1, 1, none⟩ = some (.int .u32 y1) ∧ W.cell? ⟨w.heap.size + 1, 2, none⟩ = some (.int .u32 y2) ∧ W.cell? ⟨w.heap.size + 1, 3, none⟩ = some (.int .u32 y3) := by
  obtain ⟨a0, a1, a2, a3, _⟩ := cells4 h.hd
  obtain ⟨b0, b1, b2, b3, _⟩ := cells4 h.hs
  exact ⟨h, a0, a1, a2, a3, b0, b1, b2, b3⟩
set_option maxRecDepth 100000 in
set_option maxHeartbeats 2000000 in
theorem walk (a0 : Ws) (o0 : Ok4 a0) (a1 : Ws) (o1 : Ok4 a1) (w : World) (ht : Tabs w) :
    Calls Tryd.prog 6 #[ag a0, ag a1] w fun e w' => e = .returned (.bool true) ∧ Below w.heap.size w w' := by
  have h1 := pair_ok o0 o1
  have h2 := pair_ok o1 o0
  have c1 := fun w ht => pair_code a0 a1 w o0 o1 ht
  have c2 := fun w => pair_ref a0 a1 w o0 o1
  have c3 := fun w ht => pair_code a1 a0 w o1 o0 ht
  have c4 := fun w => pair_ref a1 a0 w o1 o0
  obtain ⟨m0, m1, m2, m3, em, _⟩ := ok4 h1
  obtain ⟨n0, n1, n2, n3, en, _⟩ := ok4 h2
  rw [em] at c1 c2
  rw [en] at c3 c4
  obtain ⟨x0, x1, x2, x3, rfl, _⟩ := ok4 o0
  obtain ⟨y0, y1, y2, y3, rfl, _⟩ := ok4 o1
  rw [ag4, ag4, ag4] at c1 c2 c3 c4
  rw [ag4, ag4]
  have C1 := Lib.hid c1
  have C2 := Lib.hid c2
  have C3 := Lib.hid c3
  have C4 := Lib.hid c4
  have HT := Lib.hid ht
  have HK := Lib.hid (Kq.two w (.cells #[.int .u32 x0, .int .u32 x1, .int .u32 x2, .int .u32 x3] 29 (0, 0)) (.cells #[.int .u32 y0, .int .u32 y1, .int .u32 y2, .int .u32 y3] 29 (0, 0))).drew
  have q4 := eq4s
  have s0 := same_self
  clear c1 c2 c3 c4 ht h1 h2 em en o0 o1
  go_enter Tryd.func6, Tryd.ntmps6
  go_wp2_with fail
  go_region_held3 (fun W => Kq w W w.heap.size (w.heap.size + 1) (.cells #[.int .u32 x0, .int .u32 x1, .int .u32 x2, .int .u32 x3] 29 (0, 0)) (.cells #[.int .u32 y0, .int .u32 y1, .int .u32 y2, .int .u32 y3] 29 (0, 0)) ∧ W.cell? ⟨w.heap.size, 0, none⟩ = some (.int .u32 x0) ∧ W.cell? ⟨w.heap.size, 1, none⟩ = some (.int .u32 x1) ∧ W.cell? ⟨w.heap.size, 2, none⟩ = some (.int .u32 x2) ∧ W.cell? ⟨w.heap.size, 3, none⟩ = some (.int .u32 x3) ∧ W.cell? ⟨w.heap.size + 1, 0, none⟩ = some (.int .u32 y0) ∧ W.cell? ⟨w.heap.size + 1, 1, none⟩ = some (.int .u32 y1) ∧ W.cell? ⟨w.heap.size + 1, 2, none⟩ = some (.int .u32 y2) ∧ W.cell? ⟨w.heap.size + 1, 3, none⟩ = some (.int .u32 y3))
    (exact all4 HK.out)
    (first
      | (go_at_call 11; with_reducible refine (awake_any _ (HT.out.below HK.out.be)).mono ?_; rintro e w' ⟨rfl, hb⟩; replace HK := Lib.hid (HK.out.after hb); clear hb)
      | (go_at_call 18; with_reducible refine (C1.out _ (HT.out.below HK.out.be)).mono ?_; rintro e w' ⟨rfl, hb⟩; replace HK := Lib.hid (HK.out.after hb); clear hb)
      | (go_at_call 18; with_reducible refine (C3.out _ (HT.out.below HK.out.be)).mono ?_; rintro e w' ⟨rfl, hb⟩; replace HK := Lib.hid (HK.out.after hb); clear hb)
      | (go_at_call 19; with_reducible refine (C2.out _).mono ?_; rintro e w' ⟨rfl, hb⟩; replace HK := Lib.hid (HK.out.after hb); clear hb)
      | (go_at_call 19; with_reducible refine (C4.out _).mono ?_; rintro e w' ⟨rfl, hb⟩; replace HK := Lib.hid (HK.out.after hb); clear hb))
  all_goals
    go_wp2_with fail
    go_ret
    exact ⟨rfl, HK.out.be⟩

theorem contract (H : Type) (enc : TypeId × Value → H) (W : World) (base : Nat) (args : Array Value) (ds gs : List (DataW H)) (before : List MemPlace)
    (hval : ∀ (j : Nat) t v, Tryd.f6.params[j]? = some t → args[j]? = some v → Value.okWide Tryd.prog W .any base t v)
    (hW : DataW.Whole enc Tryd.prog Tryd.f6.params.toList Rows.digestPairsSpec.vars false W args.toList ds gs before) (hL : laidMetH Tryd.prog Rows.digestPairsRow.laid W) :
    Calls Tryd.prog 6 args W fun e W' => ∃ v, e = .returned v ∧ Rows.digestPairsSpec.post enc Tryd.prog Tryd.f6 false true false false W args v W' := by
  have hW' := hW
  obtain ⟨p, q, hA0, hV, rfl, hfz, hnd⟩ := hW
  have hA : DataW.TrodAll enc Tryd.prog W 0 (fun _ => true) true Tryd.f6.params.toList args.toList ds p := hA0
  rw [Tryd.params6] at hA hval
  obtain ⟨v0, vs0, d0, ds0, p0, q0, hargs, rfl, rfl, h0, r0⟩ := trodAll_cons hA
  obtain ⟨v1, vs1, d1, ds1, p1, q1, rfl, rfl, rfl, h1, r1⟩ := trodAll_cons r0
  obtain ⟨rfl, rfl, rfl⟩ := trodAll_nil r1
  obtain rfl : args = #[v0, v1] := by cases args; simp_all
  obtain ⟨rfl, rfl⟩ := trodVars_none hV
  obtain ⟨x00, x01, x02, x03, rfl, rfl, rfl, w0, o0⟩ := open_dg (hval 0 29 v0 rfl rfl) h0
  obtain ⟨x10, x11, x12, x13, rfl, rfl, rfl, w1, o1⟩ := open_dg (hval 1 29 v1 rfl rfl) h1
  clear hA0
  simp only [List.append_nil] at hW'
  refine (walk _ o0 _ o1 W (tabs_of (l := Rows.digestPairsRow.laid) hL (by first | exact .head _ | exact .tail _ (.head _) | exact .tail _ (.tail _ (.head _))) (by first | exact .head _ | exact .tail _ (.head _) | exact .tail _ (.tail _ (.head _))) (by first | exact .head _ | exact .tail _ (.head _) | exact .tail _ (.tail _ (.head _))))).mono fun e W' ⟨he, hg⟩ => ?_
  subst he
  exact ⟨_, rfl, _, _, _, [], [], [], hW', trodAll_mk1 (shut_bool Tryd.underlying4 _), (trodAll_cons_mk (shut_dg w0) (trodAll_cons_mk (shut_dg w1) trodAll_mk0)), rfl, hg.frame _, fun h => by cases h⟩

theorem laid_met (os : Os) : laidMet Tryd.prog Rows.digestPairsRow.laid ((laidWorld os).forCall (fun _ _ => 0) ⟨#[], #[.agg #[.int .u32 0, .int .u32 0, .int .u32 0, .int .u32 0], .agg #[.int .u32 0, .int .u32 0, .int .u32 0, .int .u32 0]], []⟩).memory :=
  laidMet_of_run' 8 (by kernel_rfl) (by kernel_rfl)
theorem reads (os : Os) {H : Type} (enc : TypeId × Value → H) : ∃ places, DataW.whole enc Tryd.prog ((laidWorld os).forCall (fun _ _ => 0) ⟨#[], #[.agg #[.int .u32 0, .int .u32 0, .int .u32 0, .int .u32 0], .agg #[.int .u32 0, .int .u32 0, .int .u32 0, .int .u32 0]], []⟩).memory Tryd.f6.params.toList Rows.digestPairsSpec.vars false (#[.agg #[.int .u32 0, .int .u32 0, .int .u32 0, .int .u32 0], .agg #[.int .u32 0, .int .u32 0, .int .u32 0, .int .u32 0]] : Array Value).toList 8 = some ([.agg [.lit (.int .u32 0), .lit (.int .u32 0), .lit (.int .u32 0), .lit (.int .u32 0)], .agg [.lit (.int .u32 0), .lit (.int .u32 0), .lit (.int .u32 0), .lit (.int .u32 0)]], [], places) :=
  ⟨[], by kernel_rfl⟩

set_option maxRecDepth 100000 in
theorem lifted (os : Os) (started : os.Started) (H : Type) (enc : TypeId × Value → H) (F : Stop.Interp) :
    ReturnsInHanded {} Tryd.checked os 6 .any ((OpenSpec.ofChange Rows.digestPairsSpec).preRow enc Tryd.prog Tryd.f6 Rows.digestPairsRow.domain false Rows.digestPairsRow.laid) (((OpenSpec.ofChange Rows.digestPairsSpec).at F).post enc Tryd.prog Tryd.f6 false true false false) := by
  obtain ⟨places, hx⟩ := reads os enc
  refine returnsInHanded_of_row (C := Tryd.checked) (s := OpenSpec.ofChange Rows.digestPairsSpec) own started (by kernel_rfl) Tryd.func6
    (witness_row_at (enc := enc) (C := Tryd.checked) false (laidWorld os) #[.agg #[.int .u32 0, .int .u32 0, .int .u32 0, .int .u32 0], .agg #[.int .u32 0, .int .u32 0, .int .u32 0, .int .u32 0]] rfl (by kernel_rfl) (by kernel_rfl) (by kernel_rfl)
      (OpenSpec.preRow_of_cond 8 hx (by kernel_rfl) (fun k hk => by cases hk) (by kernel_rfl) (laid_met os))) ?_
  intro W base args ds gs before hval hW _ _ _ hL _ _
  exact contract H enc W base args ds gs before hval hW hL

theorem said : Rows.DigestPairsSaid :=
  OpenClaim.holds_of_cond 6 Tryd.f6 rfl rfl rfl rfl rfl rfl rfl ⟨rfl, rfl, rfl, rfl, rfl⟩ rfl rfl rfl rfl rfl (by kernel_rfl) Tryd.func6 (by kernel_rfl)
    (of_decide_eq_true (by kernel_rfl)) (by unfold Func.isWrapper; first | (rw [if_pos (by decide +kernel)]; kernel_rfl) | (rw [if_neg (by decide +kernel)]; exact ⟨rfl, rfl⟩))
    (fun os started H enc _ F => by rw [OpenClaim.pre_eq_preRow]; exact lifted os started H enc F)

theorem plain (f : FuncId) (fn : Func) (hf : Tryd.pinned.checked.prog.funcNamed "seedcorn/seedcornlaw03.DigestPairs" = some f) (hfn : Tryd.pinned.checked.prog.funcs[f]? = some fn) :
    false = Tryd.pinned.checked.prog.looks [] ∧ ∀ (j : Nat) t, fn.params[j]? = some t → Tryd.pinned.checked.prog.wantsStandIn t = false := by
  obtain rfl : f = 6 := Option.some.inj ((show Tryd.prog.funcNamed "seedcorn/seedcornlaw03.DigestPairs" = some 6 by kernel_rfl).symm.trans hf) |>.symm
  obtain rfl : fn = Tryd.f6 := (Option.some.inj (Tryd.func6.symm.trans hfn)).symm
  refine ⟨by kernel_rfl, fun j t ht => ?_⟩
  rw [Tryd.params6] at ht
  have hm := Array.mem_of_getElem? ht
  obtain rfl : t = 29 := by simpa using hm
  exact (show Tryd.prog.wantsStandIn 29 = false by kernel_rfl)

/-- The card. -/
theorem card : Rows.DigestPairsCardSaid :=
  Claim7.holds_tied_plain_at .later [] _ _ _ _ said (fun _ h => by cases h) (by kernel_rfl) (fun _ h => by cases h) digestPairs_row_tie rfl ⟨rfl, rfl⟩ (by kernel_rfl) rfl plain (by kernel_rfl)
end Go.Proofs.YtaogndcaabnboaaDoor.digestPairs
