/- The law InstCodes: for every instruction it returns true, and all read as before. The tables that it reads hold what the program's text lays (the card ties them). No other condition. -/
import Derived.Test.YtihgkmjlefaaoaaDoorInsQ
import Derived.Test.YtihgkmjlefaaoaaDoorInsR
import Derived.Test.YtihgkmjlefaaoaaDoorInsW
import Derived.Deep.DeepCutAuto
import Derived.Deep.RegionHeld3
namespace Go.Proofs.YtihgkmjlefaaoaaDoor.instCodes
open Go.ChangeShapes Go.WideShapes Go.ChangeAt Go.RowKit
open Go.ChangeMaps (open_string shut_string)
set_option linter.unusedVariables false

set_option maxRecDepth 100000 in
set_option maxHeartbeats 4000000 in
theorem walk {op a b c : Int} (w : World) (ht : Tabs w) :
    Calls Tryd.prog 3 #[.agg #[.int .i64 op, .int .i64 a, .int .i64 b, .int .i64 c]] w fun e w' => e = .returned (.bool true) ∧ Below w.heap.size w w' := by
  have CA := Lib.hid (fun w ht => awake7 w ht)
  have c1 := fun w ht => encode7 op a b c w ht
  have c2 := fun w => encode_ref op a b c w
  have c3 := fun w ht => right7 op a b c w ht
  have c4 := fun w => right_ref op a b c w
  have c5 := fun w ht => text7 op a b c w ht
  have c6 := fun w => text7_ref op a b c w
  have qi := eqIns
  have hE : 0 ≤ ecv op a b c ∧ ecv op a b c < 4294967296 := by
    unfold ecv
    cases hr : rgt op a b c with
    | true => exact enc_bounds hr
    | false => exact ⟨by simp, by simp⟩
  have c7 := fun w ht => decode7 (ecv op a b c) w hE.1 hE.2 ht
  have HT := Lib.hid ht
  have HK := Lib.hid ((Kx.nil none w).more (.cells #[.int .i64 op, .int .i64 a, .int .i64 b, .int .i64 c] 23 (0, 0)))
  obtain ⟨T, hT⟩ : ∃ T : ByteArray, ⟨(itx op a b c).toArray⟩ = T := ⟨_, rfl⟩
  rw [hT] at c5 c6
  obtain ⟨E, hE2⟩ : ∃ E, ecv op a b c = E := ⟨_, rfl⟩
  rw [hE2] at c1 c2 c7
  have s1 : (T.toList == T.toList) = true := by simp
  have s2 : (E != E) = false := by simp
  cases hr : rgt op a b c with
  | true =>
    rw [hr] at c3 c4
    rw [show ece op a b c = 0 from by unfold ece; rw [hr]; rfl] at c1 c2
    have hd := enc_fields hr
    have hev : E = enc op a b c := by rw [← hE2]; unfold ecv; rw [hr]; rfl
    rw [show dcd E = #[.int .i64 op, .int .i64 a, .int .i64 b, .int .i64 c] from by unfold dcd; rw [hev, hd.1, hd.2.1, hd.2.2.1, hd.2.2.2, hr]; rfl, show dce E = 0 from by unfold dce; rw [hev, hd.1, hd.2.1, hd.2.2.1, hd.2.2.2, hr]; rfl] at c7
    clear hd hev
    have C1 := Lib.hid c1
    have C2 := Lib.hid c2
    have C3 := Lib.hid c3
    have C4 := Lib.hid c4
    have C5 := Lib.hid c5
    have C6 := Lib.hid c6
    have C7 := Lib.hid c7
    clear c1 c2 c3 c4 c5 c6 c7 hr hT hE hE2 ht
    go_enter Tryd.func3, Tryd.ntmps3
    go_wp2_with fail
    refine (CA.out _ (HT.out.oldn HK.out)).mono ?_
    rintro e w1 ⟨rfl, hb⟩
    replace HK := Lib.hid (HK.out.after hb)
    clear hb
    obtain ⟨a0, a1, a2, a3, _⟩ := cells4 (HK.out.at 0 rfl)
    go_wp2_with fail
    refine (C1.out _ (HT.out.oldn HK.out)).mono ?_
    rintro e w2 ⟨rfl, hb⟩
    replace HK := Lib.hid (HK.out.after hb)
    clear hb a0 a1 a2 a3
    obtain ⟨a0, a1, a2, a3, _⟩ := cells4 (HK.out.at 0 rfl)
    go_wp2_with fail
    refine (C2.out _).mono ?_
    rintro e w3 ⟨rfl, hb⟩
    replace HK := Lib.hid (HK.out.after hb)
    clear hb a0 a1 a2 a3
    go_wp2_with fail
    replace HK := Lib.hid HK.out.drew
    go_region_held3 (fun W => W.cell? ⟨w.heap.size, 0, none⟩ = some (.int .i64 op) ∧ W.cell? ⟨w.heap.size, 1, none⟩ = some (.int .i64 a) ∧ W.cell? ⟨w.heap.size, 2, none⟩ = some (.int .i64 b) ∧ W.cell? ⟨w.heap.size, 3, none⟩ = some (.int .i64 c))
      (exact at4 HK.out)
      (first
        | (go_at_call 12; (with_reducible refine (C3.out _ (HT.out.oldn HK.out)).mono ?_); rintro e w' ⟨rfl, hb⟩; replace HK := Lib.hid (HK.out.after hb); clear hb)
        | (go_at_call 13; (with_reducible refine (C4.out _).mono ?_); rintro e w' ⟨rfl, hb⟩; replace HK := Lib.hid (HK.out.after hb); clear hb)
        | (go_at_call 14; (with_reducible refine (C5.out _ (HT.out.oldn HK.out)).mono ?_); rintro e w' ⟨rfl, hb⟩; replace HK := Lib.hid (HK.out.after hb); clear hb)
        | (go_at_call 15; (with_reducible refine (C6.out _).mono ?_); rintro e w' ⟨rfl, hb⟩; replace HK := Lib.hid (HK.out.after hb); clear hb))
    all_goals
      go_wp2_with fail
      refine (C7.out _ (HT.out.oldn HK.out)).mono ?_
      rintro e w8 ⟨rfl, hb⟩
      replace HK := Lib.hid (HK.out.after hb)
      clear hb
      replace HK := Lib.hid (HK.out.more (.cells #[.int .i64 op, .int .i64 a, .int .i64 b, .int .i64 c] 23 (0, 0)))
      obtain ⟨a0, a1, a2, a3, _⟩ := cells4 (HK.out.at 0 rfl)
      obtain ⟨b0, b1, b2, b3, _⟩ := cells4 (HK.out.at 1 rfl)
      go_wp2_with fail
      go_ret
      exact ⟨rfl, HK.out.be.plain⟩
  | false =>
    rw [hr] at c3 c4
    rw [show ece op a b c = 1 from by unfold ece; rw [hr]; rfl] at c1 c2
    obtain rfl : E = 0 := by rw [← hE2]; unfold ecv; rw [hr]; rfl
    rw [show dcd 0 = #[.int .i64 0, .int .i64 0, .int .i64 0, .int .i64 0] from rfl, show dce 0 = 7 from by decide] at c7
    have C1 := Lib.hid c1
    have C2 := Lib.hid c2
    have C3 := Lib.hid c3
    have C4 := Lib.hid c4
    have C5 := Lib.hid c5
    have C6 := Lib.hid c6
    have C7 := Lib.hid c7
    clear c1 c2 c3 c4 c5 c6 c7 hr hT hE hE2 ht
    go_enter Tryd.func3, Tryd.ntmps3
    go_wp2_with fail
    refine (CA.out _ (HT.out.oldn HK.out)).mono ?_
    rintro e w1 ⟨rfl, hb⟩
    replace HK := Lib.hid (HK.out.after hb)
    clear hb
    obtain ⟨a0, a1, a2, a3, _⟩ := cells4 (HK.out.at 0 rfl)
    go_wp2_with fail
    refine (C1.out _ (HT.out.oldn HK.out)).mono ?_
    rintro e w2 ⟨rfl, hb⟩
    replace HK := Lib.hid (HK.out.after hb)
    clear hb a0 a1 a2 a3
    obtain ⟨a0, a1, a2, a3, _⟩ := cells4 (HK.out.at 0 rfl)
    go_wp2_with fail
    refine (C2.out _).mono ?_
    rintro e w3 ⟨rfl, hb⟩
    replace HK := Lib.hid (HK.out.after hb)
    clear hb a0 a1 a2 a3
    go_wp2_with fail
    replace HK := Lib.hid HK.out.drew
    go_region_held3 (fun W => W.cell? ⟨w.heap.size, 0, none⟩ = some (.int .i64 op) ∧ W.cell? ⟨w.heap.size, 1, none⟩ = some (.int .i64 a) ∧ W.cell? ⟨w.heap.size, 2, none⟩ = some (.int .i64 b) ∧ W.cell? ⟨w.heap.size, 3, none⟩ = some (.int .i64 c))
      (exact at4 HK.out)
      (first
        | (go_at_call 12; (with_reducible refine (C3.out _ (HT.out.oldn HK.out)).mono ?_); rintro e w' ⟨rfl, hb⟩; replace HK := Lib.hid (HK.out.after hb); clear hb)
        | (go_at_call 13; (with_reducible refine (C4.out _).mono ?_); rintro e w' ⟨rfl, hb⟩; replace HK := Lib.hid (HK.out.after hb); clear hb)
        | (go_at_call 14; (with_reducible refine (C5.out _ (HT.out.oldn HK.out)).mono ?_); rintro e w' ⟨rfl, hb⟩; replace HK := Lib.hid (HK.out.after hb); clear hb)
        | (go_at_call 15; (with_reducible refine (C6.out _).mono ?_); rintro e w' ⟨rfl, hb⟩; replace HK := Lib.hid (HK.out.after hb); clear hb))
    all_goals
      go_wp2_with fail
      refine (C7.out _ (HT.out.oldn HK.out)).mono ?_
      rintro e w8 ⟨rfl, hb⟩
      replace HK := Lib.hid (HK.out.after hb)
      clear hb
      replace HK := Lib.hid (HK.out.more (.cells #[.int .i64 0, .int .i64 0, .int .i64 0, .int .i64 0] 23 (0, 0)))
      go_wp2_with fail
      go_ret
      exact ⟨rfl, HK.out.be.plain⟩

set_option maxRecDepth 100000 in
theorem contract (H : Type) (enc : TypeId × Value → H) (W : World) (base : Nat) (args : Array Value) (ds gs : List (DataW H)) (before : List MemPlace)
    (hval : ∀ (j : Nat) t v, Tryd.f3.params[j]? = some t → args[j]? = some v → Value.okWide Tryd.prog W .any base t v)
    (hW : DataW.Whole enc Tryd.prog Tryd.f3.params.toList Rows.instCodesSpec.vars false W args.toList ds gs before) (hL : laidMetH Tryd.prog Rows.instCodesRow.laid W) :
    Calls Tryd.prog 3 args W fun e W' => ∃ v, e = .returned v ∧ Rows.instCodesSpec.post enc Tryd.prog Tryd.f3 false true false false W args v W' := by
  have hW' := hW
  obtain ⟨p, q, hA0, hV, rfl, hfz, hnd⟩ := hW
  have hA : DataW.TrodAll enc Tryd.prog W 0 (fun _ => true) true Tryd.f3.params.toList args.toList ds p := hA0
  rw [Tryd.params3] at hA hval
  obtain ⟨v0, vs0, d0, ds0, p0, q0, hargs, rfl, rfl, h0, r0⟩ := trodAll_cons hA
  obtain ⟨rfl, rfl, rfl⟩ := trodAll_nil r0
  obtain rfl : args = #[v0] := by cases args; simp_all
  obtain ⟨rfl, rfl⟩ := trodVars_none hV
  have lt0 : ∀ x ∈ p0, x.block < W.heap.size := by obtain ⟨m, hm⟩ := h0; exact DataW.trod_lt m _ _ _ hm
  obtain ⟨I00, I01, I02, I03, rfl⟩ := open_ins (hval 0 23 v0 rfl rfl) h0
  clear hA0
  refine (walk  W  (tabs_of hL)).mono fun e W' ⟨he, bel⟩ => ?_
  subst he
  exact ⟨_, rfl, _, _, _, [], _, [], hW', trodAll_mk1 (shut_bool Tryd.underlying4 _), (trodAll_cons_mk (Below.trod laidOut (by kernel_rfl) (of_decide_eq_true (by kernel_rfl)) h0 bel lt0) trodAll_mk0), rfl, bel.frame _, fun h => by cases h⟩

theorem laid_met (os : Os) : laidMet Tryd.prog Rows.instCodesRow.laid ((laidWorld os).forCall (fun _ _ => 0) ⟨#[], #[.agg #[.int .i64 0, .int .i64 0, .int .i64 0, .int .i64 0]], []⟩).memory :=
  laidMet_of_run' 8 (by kernel_rfl) (by kernel_rfl)
theorem reads (os : Os) {H : Type} (enc : TypeId × Value → H) : ∃ places, DataW.whole enc Tryd.prog ((laidWorld os).forCall (fun _ _ => 0) ⟨#[], #[.agg #[.int .i64 0, .int .i64 0, .int .i64 0, .int .i64 0]], []⟩).memory Tryd.f3.params.toList Rows.instCodesSpec.vars false (#[.agg #[.int .i64 0, .int .i64 0, .int .i64 0, .int .i64 0]] : Array Value).toList 8 = some ([.agg [.lit (.int .i64 0), .lit (.int .i64 0), .lit (.int .i64 0), .lit (.int .i64 0)]], [], places) :=
  ⟨[], by kernel_rfl⟩

set_option maxRecDepth 100000 in
theorem lifted (os : Os) (started : os.Started) (H : Type) (enc : TypeId × Value → H) (F : Stop.Interp) :
    ReturnsInHanded {} Tryd.checked os 3 .any ((OpenSpec.ofChange Rows.instCodesSpec).preRow enc Tryd.prog Tryd.f3 Rows.instCodesRow.domain false Rows.instCodesRow.laid) (((OpenSpec.ofChange Rows.instCodesSpec).at F).post enc Tryd.prog Tryd.f3 false true false false) := by
  obtain ⟨places, hx⟩ := reads os enc
  refine returnsInHanded_of_row (C := Tryd.checked) (s := OpenSpec.ofChange Rows.instCodesSpec) own started (by kernel_rfl) Tryd.func3
    (witness_row_at (enc := enc) (C := Tryd.checked) false (laidWorld os) #[.agg #[.int .i64 0, .int .i64 0, .int .i64 0, .int .i64 0]] rfl (by kernel_rfl) (by kernel_rfl) (by kernel_rfl)
      (OpenSpec.preRow_of_cond 8 hx (by kernel_rfl) (fun k hk => by cases hk) (by kernel_rfl) (laid_met os))) ?_
  intro W base args ds gs before hval hW _ _ _ hL _ _
  exact contract H enc W base args ds gs before hval hW hL

theorem said : Rows.InstCodesSaid :=
  OpenClaim.holds_of_cond 3 Tryd.f3 rfl rfl rfl rfl rfl rfl rfl ⟨rfl, rfl, rfl, rfl, rfl⟩ rfl rfl rfl rfl rfl (by kernel_rfl) Tryd.func3 (by kernel_rfl)
    (of_decide_eq_true (by kernel_rfl)) (by unfold Func.isWrapper; first | (rw [if_pos (by decide +kernel)]; kernel_rfl) | (rw [if_neg (by decide +kernel)]; exact ⟨rfl, rfl⟩))
    (fun os started H enc _ F => by rw [OpenClaim.pre_eq_preRow]; exact lifted os started H enc F)

theorem plain (f : FuncId) (fn : Func) (hf : Tryd.pinned.checked.prog.funcNamed "seedcorn/seedcornlaw07.InstCodes" = some f) (hfn : Tryd.pinned.checked.prog.funcs[f]? = some fn) :
    false = Tryd.pinned.checked.prog.looks [] ∧ ∀ (j : Nat) t, fn.params[j]? = some t → Tryd.pinned.checked.prog.wantsStandIn t = false := by
  obtain rfl : f = 3 := Option.some.inj ((show Tryd.prog.funcNamed "seedcorn/seedcornlaw07.InstCodes" = some 3 by kernel_rfl).symm.trans hf) |>.symm
  obtain rfl : fn = Tryd.f3 := (Option.some.inj (Tryd.func3.symm.trans hfn)).symm
  refine ⟨by kernel_rfl, fun j t ht => ?_⟩
  rw [Tryd.params3] at ht
  have hm := Array.mem_of_getElem? ht
  have hm' : t = 23 := by simpa using hm
  rcases hm' with rfl
  · exact (show Tryd.prog.wantsStandIn 23 = false by kernel_rfl)

/-- The card. -/
theorem card : Rows.InstCodesCardSaid :=
  Claim7.holds_tied_plain_at .later [] _ _ _ _ said (fun _ h => by cases h) (by kernel_rfl) (fun _ h => by cases h) instCodes_row_tie rfl ⟨rfl, rfl⟩ (by kernel_rfl) rfl plain (by kernel_rfl)
end Go.Proofs.YtihgkmjlefaaoaaDoor.instCodes
