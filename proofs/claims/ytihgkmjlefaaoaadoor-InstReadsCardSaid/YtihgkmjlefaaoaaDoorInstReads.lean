/- The law InstReads: for every word it returns true, and all read as before. The tables that it reads hold what the program's text lays (the card ties them). No other condition. -/
import Derived.Test.YtihgkmjlefaaoaaDoorInsQ
import Derived.Test.YtihgkmjlefaaoaaDoorInsR
import Derived.Test.YtihgkmjlefaaoaaDoorInsW
import Derived.Deep.DeepCutAuto
import Derived.Deep.RegionHeld3
namespace Go.Proofs.YtihgkmjlefaaoaaDoor.instReads
open Go.ChangeShapes Go.WideShapes Go.ChangeAt Go.RowKit
open Go.ChangeMaps (open_string shut_string)
set_option linter.unusedVariables false

set_option maxRecDepth 100000 in
set_option maxHeartbeats 4000000 in
theorem walk {v : Int} (h0 : 0 ≤ v) (h1 : v < 4294967296) (w : World) (ht : Tabs w) :
    Calls Tryd.prog 4 #[.int .u32 v] w fun e w' => e = .returned (.bool true) ∧ Below w.heap.size w w' := by
  have CA := Lib.hid (fun w ht => awake7 w ht)
  have c1 := fun w ht => decode7 v w h0 h1 ht
  have c2 := fun w => decode_ref v w h0 h1
  have qi := eqIns
  have hbk := enc_back v h0 h1
  obtain ⟨op, hop⟩ : ∃ x, v / 16777216 = x := ⟨_, rfl⟩
  obtain ⟨a, ha⟩ : ∃ x, v / 1048576 % 16 = x := ⟨_, rfl⟩
  obtain ⟨b, hb1⟩ : ∃ x, v / 65536 % 16 = x := ⟨_, rfl⟩
  obtain ⟨c, hc⟩ : ∃ x, v % 65536 = x := ⟨_, rfl⟩
  unfold dcd dce at c1 c2
  rw [hop, ha, hb1, hc] at c1 c2 hbk
  have HT := Lib.hid ht
  have HK := Lib.hid (Kx.nil none w)
  clear hop ha hb1 hc h0 h1
  cases hr : rgt op a b c with
  | true =>
    rw [hr] at c1 c2
    simp only [if_true] at c1 c2
    have c3 := fun w ht => encode7 op a b c w ht
    rw [show ecv op a b c = v from by unfold ecv; rw [hr]; exact hbk, show ece op a b c = 0 from by unfold ece; rw [hr]; rfl] at c3
    have c4 := fun w ht => right7 op a b c w ht
    rw [hr] at c4
    have C4 := Lib.hid c4
    have C1 := Lib.hid c1
    have C2 := Lib.hid c2
    have C3 := Lib.hid c3
    clear c1 c2 c3 c4 hr hbk ht
    go_enter Tryd.func4, Tryd.ntmps4
    go_wp2_with fail
    refine (CA.out _ (HT.out.oldn HK.out)).mono ?_
    rintro e w1 ⟨rfl, hb⟩
    replace HK := Lib.hid (HK.out.after hb)
    clear hb
    go_wp2_with fail
    refine (C1.out _ (HT.out.oldn HK.out)).mono ?_
    rintro e w2 ⟨rfl, hb⟩
    replace HK := Lib.hid (HK.out.after hb)
    clear hb
    replace HK := Lib.hid (HK.out.more (.cells #[.int .i64 op, .int .i64 a, .int .i64 b, .int .i64 c] 23 (0, 0)))
    go_wp2_with fail
    refine (C2.out _).mono ?_
    rintro e w3 ⟨rfl, hb⟩
    replace HK := Lib.hid (HK.out.after hb)
    clear hb
    replace HK := Lib.hid (HK.out.more (.cells #[.int .i64 op, .int .i64 a, .int .i64 b, .int .i64 c] 23 (0, 0)))
    obtain ⟨a0, a1, a2, a3, _⟩ := cells4 (HK.out.at 0 rfl)
    obtain ⟨b0, b1, b2, b3, _⟩ := cells4 (HK.out.at 1 rfl)
    go_wp2_with fail
    refine (C3.out _ (HT.out.oldn HK.out)).mono ?_
    rintro e w4 ⟨rfl, hb⟩
    replace HK := Lib.hid (HK.out.after hb)
    clear hb a0 a1 a2 a3 b0 b1 b2 b3
    obtain ⟨a0, a1, a2, a3, _⟩ := cells4 (HK.out.at 0 rfl)
    go_wp2_with fail
    refine (C4.out _ (HT.out.oldn HK.out)).mono ?_
    rintro e w5 ⟨rfl, hb⟩
    replace HK := Lib.hid (HK.out.after hb)
    clear hb
    go_wp2_with fail
    go_ret
    exact ⟨rfl, HK.out.be.plain⟩
  | false =>
    rw [hr] at c1 c2
    simp only [Bool.false_eq_true, if_false] at c1 c2
    have c3 := fun w ht => encode7 0 0 0 0 w ht
    rw [show ecv 0 0 0 0 = 0 from rfl, show ece 0 0 0 0 = 1 from rfl] at c3
    have C1 := Lib.hid c1
    have C2 := Lib.hid c2
    have C3 := Lib.hid c3
    clear c1 c2 c3 hr hbk ht
    go_enter Tryd.func4, Tryd.ntmps4
    go_wp2_with fail
    refine (CA.out _ (HT.out.oldn HK.out)).mono ?_
    rintro e w1 ⟨rfl, hb⟩
    replace HK := Lib.hid (HK.out.after hb)
    clear hb
    go_wp2_with fail
    refine (C1.out _ (HT.out.oldn HK.out)).mono ?_
    rintro e w2 ⟨rfl, hb⟩
    replace HK := Lib.hid (HK.out.after hb)
    clear hb
    replace HK := Lib.hid (HK.out.more (.cells #[.int .i64 0, .int .i64 0, .int .i64 0, .int .i64 0] 23 (0, 0)))
    go_wp2_with fail
    refine (C2.out _).mono ?_
    rintro e w3 ⟨rfl, hb⟩
    replace HK := Lib.hid (HK.out.after hb)
    clear hb
    replace HK := Lib.hid (HK.out.more (.cells #[.int .i64 0, .int .i64 0, .int .i64 0, .int .i64 0] 23 (0, 0)))
    obtain ⟨a0, a1, a2, a3, _⟩ := cells4 (HK.out.at 0 rfl)
    obtain ⟨b0, b1, b2, b3, _⟩ := cells4 (HK.out.at 1 rfl)
    go_wp2_with fail
    refine (C3.out _ (HT.out.oldn HK.out)).mono ?_
    rintro e w4 ⟨rfl, hb⟩
    replace HK := Lib.hid (HK.out.after hb)
    clear hb a0 a1 a2 a3 b0 b1 b2 b3
    go_wp2_with fail
    go_ret
    exact ⟨rfl, HK.out.be.plain⟩

set_option maxRecDepth 100000 in
theorem contract (H : Type) (enc : TypeId × Value → H) (W : World) (base : Nat) (args : Array Value) (ds gs : List (DataW H)) (before : List MemPlace)
    (hval : ∀ (j : Nat) t v, Tryd.f4.params[j]? = some t → args[j]? = some v → Value.okWide Tryd.prog W .any base t v)
    (hW : DataW.Whole enc Tryd.prog Tryd.f4.params.toList Rows.instReadsSpec.vars false W args.toList ds gs before) (hL : laidMetH Tryd.prog Rows.instReadsRow.laid W) :
    Calls Tryd.prog 4 args W fun e W' => ∃ v, e = .returned v ∧ Rows.instReadsSpec.post enc Tryd.prog Tryd.f4 false true false false W args v W' := by
  have hW' := hW
  obtain ⟨p, q, hA0, hV, rfl, hfz, hnd⟩ := hW
  have hA : DataW.TrodAll enc Tryd.prog W 0 (fun _ => true) true Tryd.f4.params.toList args.toList ds p := hA0
  rw [Tryd.params4] at hA hval
  obtain ⟨v0, vs0, d0, ds0, p0, q0, hargs, rfl, rfl, h0, r0⟩ := trodAll_cons hA
  obtain ⟨rfl, rfl, rfl⟩ := trodAll_nil r0
  obtain rfl : args = #[v0] := by cases args; simp_all
  obtain ⟨rfl, rfl⟩ := trodVars_none hV
  have lt0 : ∀ x ∈ p0, x.block < W.heap.size := by obtain ⟨m, hm⟩ := h0; exact DataW.trod_lt m _ _ _ hm
  have k0 := h0
  obtain ⟨a0, rfl, _, _, w0⟩ := open_int Tryd.underlying25 (hval 0 25 v0 rfl rfl) k0
  clear hA0
  refine (walk (bounds_u32 w0).1 (by have := (bounds_u32 w0).2; omega) W  (tabs_of hL)).mono fun e W' ⟨he, bel⟩ => ?_
  subst he
  exact ⟨_, rfl, _, _, _, [], _, [], hW', trodAll_mk1 (shut_bool Tryd.underlying4 _), (trodAll_cons_mk (Below.trod laidOut (by kernel_rfl) (of_decide_eq_true (by kernel_rfl)) h0 bel lt0) trodAll_mk0), rfl, bel.frame _, fun h => by cases h⟩

theorem laid_met (os : Os) : laidMet Tryd.prog Rows.instReadsRow.laid ((laidWorld os).forCall (fun _ _ => 0) ⟨#[], #[.int .u32 0], []⟩).memory :=
  laidMet_of_run' 8 (by kernel_rfl) (by kernel_rfl)
theorem reads (os : Os) {H : Type} (enc : TypeId × Value → H) : ∃ places, DataW.whole enc Tryd.prog ((laidWorld os).forCall (fun _ _ => 0) ⟨#[], #[.int .u32 0], []⟩).memory Tryd.f4.params.toList Rows.instReadsSpec.vars false (#[.int .u32 0] : Array Value).toList 8 = some ([.lit (.int .u32 0)], [], places) :=
  ⟨[], by kernel_rfl⟩

set_option maxRecDepth 100000 in
theorem lifted (os : Os) (started : os.Started) (H : Type) (enc : TypeId × Value → H) (F : Stop.Interp) :
    ReturnsInHanded {} Tryd.checked os 4 .any ((OpenSpec.ofChange Rows.instReadsSpec).preRow enc Tryd.prog Tryd.f4 Rows.instReadsRow.domain false Rows.instReadsRow.laid) (((OpenSpec.ofChange Rows.instReadsSpec).at F).post enc Tryd.prog Tryd.f4 false true false false) := by
  obtain ⟨places, hx⟩ := reads os enc
  refine returnsInHanded_of_row (C := Tryd.checked) (s := OpenSpec.ofChange Rows.instReadsSpec) own started (by kernel_rfl) Tryd.func4
    (witness_row_at (enc := enc) (C := Tryd.checked) false (laidWorld os) #[.int .u32 0] rfl (by kernel_rfl) (by kernel_rfl) (by kernel_rfl)
      (OpenSpec.preRow_of_cond 8 hx (by kernel_rfl) (fun k hk => by cases hk) (by kernel_rfl) (laid_met os))) ?_
  intro W base args ds gs before hval hW _ _ _ hL _ _
  exact contract H enc W base args ds gs before hval hW hL

theorem said : Rows.InstReadsSaid :=
  OpenClaim.holds_of_cond 4 Tryd.f4 rfl rfl rfl rfl rfl rfl rfl ⟨rfl, rfl, rfl, rfl, rfl⟩ rfl rfl rfl rfl rfl (by kernel_rfl) Tryd.func4 (by kernel_rfl)
    (of_decide_eq_true (by kernel_rfl)) (by unfold Func.isWrapper; first | (rw [if_pos (by decide +kernel)]; kernel_rfl) | (rw [if_neg (by decide +kernel)]; exact ⟨rfl, rfl⟩))
    (fun os started H enc _ F => by rw [OpenClaim.pre_eq_preRow]; exact lifted os started H enc F)

theorem plain (f : FuncId) (fn : Func) (hf : Tryd.pinned.checked.prog.funcNamed "seedcorn/seedcornlaw07.InstReads" = some f) (hfn : Tryd.pinned.checked.prog.funcs[f]? = some fn) :
    false = Tryd.pinned.checked.prog.looks [] ∧ ∀ (j : Nat) t, fn.params[j]? = some t → Tryd.pinned.checked.prog.wantsStandIn t = false := by
  obtain rfl : f = 4 := Option.some.inj ((show Tryd.prog.funcNamed "seedcorn/seedcornlaw07.InstReads" = some 4 by kernel_rfl).symm.trans hf) |>.symm
  obtain rfl : fn = Tryd.f4 := (Option.some.inj (Tryd.func4.symm.trans hfn)).symm
  refine ⟨by kernel_rfl, fun j t ht => ?_⟩
  rw [Tryd.params4] at ht
  have hm := Array.mem_of_getElem? ht
  have hm' : t = 25 := by simpa using hm
  rcases hm' with rfl
  · exact (show Tryd.prog.wantsStandIn 25 = false by kernel_rfl)

/-- The card. -/
theorem card : Rows.InstReadsCardSaid :=
  Claim7.holds_tied_plain_at .later [] _ _ _ _ said (fun _ h => by cases h) (by kernel_rfl) (fun _ h => by cases h) instReads_row_tie rfl ⟨rfl, rfl⟩ (by kernel_rfl) rfl plain (by kernel_rfl)
end Go.Proofs.YtihgkmjlefaaoaaDoor.instReads
