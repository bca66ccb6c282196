/- The law InstCounts: for every operation it returns true, and all read as before. The tables that it reads hold what the program's text lays (the card ties them). No other condition. -/
import Derived.Test.YtihgkmjlefaaoaaDoorInsQ
import Derived.Test.YtihgkmjlefaaoaaDoorInsR
import Derived.Test.YtihgkmjlefaaoaaDoorInsW
import Derived.Deep.DeepCutAuto
import Derived.Deep.RegionHeld3
namespace Go.Proofs.YtihgkmjlefaaoaaDoor.instCounts
open Go.ChangeShapes Go.WideShapes Go.ChangeAt Go.RowKit
open Go.ChangeMaps (open_string shut_string)
set_option linter.unusedVariables false

theorem str_ne {l m : List UInt8} (h : l ≠ m) : ((⟨l.toArray⟩ : ByteArray).toList == (⟨m.toArray⟩ : ByteArray).toList) = false := by
  rw [ByteArray.toList_eq, ByteArray.toList_eq, beq_eq_false_iff_ne]; exact h
theorem str_some {l : List UInt8} (h : l ≠ []) : ((⟨l.toArray⟩ : ByteArray).toList == []) = false := by
  rw [ByteArray.toList_eq, beq_eq_false_iff_ne]; exact h
set_option maxRecDepth 100000 in
set_option maxHeartbeats 4000000 in
theorem walk {op : Int} (w : World) (ht : Tabs w) :
    Calls Tryd.prog 8 #[.int .i64 op] w fun e w' => e = .returned (.bool true) ∧ Below w.heap.size w w' := by
  have CA := Lib.hid (fun w ht => awake7 w ht)
  have C1 := Lib.hid (fun (k : Nat) w ht => name7 (k : Int) w ht)
  have HT := Lib.hid ht
  have HK := Lib.hid (Kx.nil none w)
  have co := fun w ht => name7 op w ht
  have CO := Lib.hid co
  clear ht co
  go_enter Tryd.func8, Tryd.ntmps8
  go_wp2_with fail
  refine (CA.out _ (HT.out.oldn HK.out)).mono ?_
  rintro e w1 ⟨rfl, hb⟩
  replace HK := Lib.hid (HK.out.after hb)
  clear hb
  go_wp2_with fail
  go_loopw [3, 4] (fun sn si wr => ∃ i : Nat, 1 ≤ i ∧ i ≤ 28 ∧ sn = .int .i64 ((i : Int) - 1) ∧ si = .int .i64 (i : Int) ∧ Hid (Kx none w wr [])) (fun _ si _ => 28 - (intOf si).toNat)
  case atStart => exact ⟨1, by omega, by omega, rfl, rfl, HK⟩
  case round =>
    clear HK
    obtain ⟨i, hi1, hi2, rfl, rfl, HK⟩ := hrel
    by_cases hlt : i ≤ 27
    · have j1 : (i : Int) ≤ 27 := by omega
      obtain ⟨NI, hNI⟩ : ∃ S : ByteArray, ⟨(nam (i : Int)).toArray⟩ = S := ⟨_, rfl⟩
      have ci := C1.out i
      rw [hNI] at ci
      have CI := Lib.hid ci
      have e1 : (NI.toList == []) = false := by rw [← hNI]; exact str_some (nam_some (by omega))
      have HNI := Lib.hid hNI
      clear ci hNI
      go_wp2_with fail
      obtain ⟨wo, ho⟩ : ∃ wo : World, wo = wr := ⟨_, rfl⟩
      go_loopw [5] (fun sk wk => ∃ k : Nat, 1 ≤ k ∧ k ≤ i ∧ sk = .int .i64 (k : Int) ∧ Hid (Kx none w wk [])) (fun sk _ => i - (intOf sk).toNat)
      case atStart => exact ⟨1, by omega, by omega, rfl, HK⟩
      case round =>
        clear HK ho
        obtain ⟨k, hk1, hk2, rfl, HK⟩ := hrel
        by_cases hl2 : k < i
        · have j2 : (k : Int) < (i : Int) := by omega
          obtain ⟨NK, hNK⟩ : ∃ S : ByteArray, ⟨(nam (k : Int)).toArray⟩ = S := ⟨_, rfl⟩
          have ck := C1.out k
          rw [hNK] at ck
          have CK := Lib.hid ck
          have e2 : (NI.toList == NK.toList) = false := by
            rw [← HNI.out, ← hNK]
            exact str_ne (fun e => by have := nam_inj (by omega) (by omega) e; omega)
          clear ck hNK
          go_wp2_with fail
          refine (CI.out _ (HT.out.oldn HK.out)).mono ?_
          rintro e w5 ⟨rfl, hb⟩
          replace HK := Lib.hid (HK.out.after hb)
          clear hb
          go_wp2_with fail
          refine (CK.out _ (HT.out.oldn HK.out)).mono ?_
          rintro e w6 ⟨rfl, hb⟩
          replace HK := Lib.hid (HK.out.after hb)
          clear hb
          go_wp2_with fail
          go_roundw
          case rel => exact ⟨k + 1, by omega, by omega, by go_num, HK⟩
          case measure => simp [intOf]; omega
        · obtain rfl : k = i := by omega
          have j2 : ¬ (k : Int) < (k : Int) := by omega
          go_wp2_with fail
          refine (CI.out _ (HT.out.oldn HK.out)).mono ?_
          rintro e w5 ⟨rfl, hb⟩
          replace HK := Lib.hid (HK.out.after hb)
          clear hb
          go_wp2_with fail
          go_roundw
          case rel => exact ⟨k + 1, by omega, by omega, by go_num, by go_num, HK⟩
          case measure => simp [intOf]; omega
    · obtain rfl : i = 28 := by omega
      by_cases hop : 1 ≤ op ∧ op ≤ 27
      · obtain ⟨o1, o2⟩ := hop
        obtain ⟨NO, hNO⟩ : ∃ S : ByteArray, ⟨(nam op).toArray⟩ = S := ⟨_, rfl⟩
        have e1 : (NO.toList == []) = false := by rw [← hNO]; exact str_some (nam_some ⟨o1, o2⟩)
        have co := CO.out
        rw [hNO] at co
        have CO2 := Lib.hid co
        clear co hNO
        go_wp2_with fail
        refine (CO2.out _ (HT.out.oldn HK.out)).mono ?_
        rintro e w5 ⟨rfl, hb⟩
        replace HK := Lib.hid (HK.out.after hb)
        clear hb
        go_wp2_with fail
        go_ret
        exact ⟨rfl, HK.out.be.plain⟩
      · have co := CO.out
        rw [nam_out hop] at co
        have CO2 := Lib.hid co
        clear co
        rcases (show op < 1 ∨ 27 < op by omega) with o1 | o1
        · clear hop
          go_wp2_with fail
          refine (CO2.out _ (HT.out.oldn HK.out)).mono ?_
          rintro e w5 ⟨rfl, hb⟩
          replace HK := Lib.hid (HK.out.after hb)
          clear hb
          go_wp2_with fail
          go_ret
          exact ⟨rfl, HK.out.be.plain⟩
        · have o2 : 1 ≤ op := by omega
          have o3 : decide (op ≤ 27) = false := decide_eq_false (by omega)
          clear hop o1
          go_wp2_with fail
          refine (CO2.out _ (HT.out.oldn HK.out)).mono ?_
          rintro e w5 ⟨rfl, hb⟩
          replace HK := Lib.hid (HK.out.after hb)
          clear hb
          go_wp2_with fail
          go_ret
          exact ⟨rfl, HK.out.be.plain⟩

set_option maxRecDepth 100000 in
theorem contract (H : Type) (enc : TypeId × Value → H) (W : World) (base : Nat) (args : Array Value) (ds gs : List (DataW H)) (before : List MemPlace)
    (hval : ∀ (j : Nat) t v, Tryd.f8.params[j]? = some t → args[j]? = some v → Value.okWide Tryd.prog W .any base t v)
    (hW : DataW.Whole enc Tryd.prog Tryd.f8.params.toList Rows.instCountsSpec.vars false W args.toList ds gs before) (hL : laidMetH Tryd.prog Rows.instCountsRow.laid W) :
    Calls Tryd.prog 8 args W fun e W' => ∃ v, e = .returned v ∧ Rows.instCountsSpec.post enc Tryd.prog Tryd.f8 false true false false W args v W' := by
  have hW' := hW
  obtain ⟨p, q, hA0, hV, rfl, hfz, hnd⟩ := hW
  have hA : DataW.TrodAll enc Tryd.prog W 0 (fun _ => true) true Tryd.f8.params.toList args.toList ds p := hA0
  rw [Tryd.params8] at hA hval
  obtain ⟨v0, vs0, d0, ds0, p0, q0, hargs, rfl, rfl, h0, r0⟩ := trodAll_cons hA
  obtain ⟨rfl, rfl, rfl⟩ := trodAll_nil r0
  obtain rfl : args = #[v0] := by cases args; simp_all
  obtain ⟨rfl, rfl⟩ := trodVars_none hV
  have lt0 : ∀ x ∈ p0, x.block < W.heap.size := by obtain ⟨m, hm⟩ := h0; exact DataW.trod_lt m _ _ _ hm
  have k0 := h0
  obtain ⟨a0, rfl, _, _, w0⟩ := open_int Tryd.underlying3 (hval 0 3 v0 rfl rfl) k0
  clear hA0
  refine (walk  W  (tabs_of hL)).mono fun e W' ⟨he, bel⟩ => ?_
  subst he
  exact ⟨_, rfl, _, _, _, [], _, [], hW', trodAll_mk1 (shut_bool Tryd.underlying4 _), (trodAll_cons_mk (Below.trod laidOut (by kernel_rfl) (of_decide_eq_true (by kernel_rfl)) h0 bel lt0) trodAll_mk0), rfl, bel.frame _, fun h => by cases h⟩

theorem laid_met (os : Os) : laidMet Tryd.prog Rows.instCountsRow.laid ((laidWorld os).forCall (fun _ _ => 0) ⟨#[], #[.int .i64 0], []⟩).memory :=
  laidMet_of_run' 8 (by kernel_rfl) (by kernel_rfl)
theorem reads (os : Os) {H : Type} (enc : TypeId × Value → H) : ∃ places, DataW.whole enc Tryd.prog ((laidWorld os).forCall (fun _ _ => 0) ⟨#[], #[.int .i64 0], []⟩).memory Tryd.f8.params.toList Rows.instCountsSpec.vars false (#[.int .i64 0] : Array Value).toList 8 = some ([.lit (.int .i64 0)], [], places) :=
  ⟨[], by kernel_rfl⟩

set_option maxRecDepth 100000 in
theorem lifted (os : Os) (started : os.Started) (H : Type) (enc : TypeId × Value → H) (F : Stop.Interp) :
    ReturnsInHanded {} Tryd.checked os 8 .any ((OpenSpec.ofChange Rows.instCountsSpec).preRow enc Tryd.prog Tryd.f8 Rows.instCountsRow.domain false Rows.instCountsRow.laid) (((OpenSpec.ofChange Rows.instCountsSpec).at F).post enc Tryd.prog Tryd.f8 false true false false) := by
  obtain ⟨places, hx⟩ := reads os enc
  refine returnsInHanded_of_row (C := Tryd.checked) (s := OpenSpec.ofChange Rows.instCountsSpec) own started (by kernel_rfl) Tryd.func8
    (witness_row_at (enc := enc) (C := Tryd.checked) false (laidWorld os) #[.int .i64 0] rfl (by kernel_rfl) (by kernel_rfl) (by kernel_rfl)
      (OpenSpec.preRow_of_cond 8 hx (by kernel_rfl) (fun k hk => by cases hk) (by kernel_rfl) (laid_met os))) ?_
  intro W base args ds gs before hval hW _ _ _ hL _ _
  exact contract H enc W base args ds gs before hval hW hL

theorem said : Rows.InstCountsSaid :=
  OpenClaim.holds_of_cond 8 Tryd.f8 rfl rfl rfl rfl rfl rfl rfl ⟨rfl, rfl, rfl, rfl, rfl⟩ rfl rfl rfl rfl rfl (by kernel_rfl) Tryd.func8 (by kernel_rfl)
    (of_decide_eq_true (by kernel_rfl)) (by unfold Func.isWrapper; first | (rw [if_pos (by decide +kernel)]; kernel_rfl) | (rw [if_neg (by decide +kernel)]; exact ⟨rfl, rfl⟩))
    (fun os started H enc _ F => by rw [OpenClaim.pre_eq_preRow]; exact lifted os started H enc F)

theorem plain (f : FuncId) (fn : Func) (hf : Tryd.pinned.checked.prog.funcNamed "seedcorn/seedcornlaw07.InstCounts" = some f) (hfn : Tryd.pinned.checked.prog.funcs[f]? = some fn) :
    false = Tryd.pinned.checked.prog.looks [] ∧ ∀ (j : Nat) t, fn.params[j]? = some t → Tryd.pinned.checked.prog.wantsStandIn t = false := by
  obtain rfl : f = 8 := Option.some.inj ((show Tryd.prog.funcNamed "seedcorn/seedcornlaw07.InstCounts" = some 8 by kernel_rfl).symm.trans hf) |>.symm
  obtain rfl : fn = Tryd.f8 := (Option.some.inj (Tryd.func8.symm.trans hfn)).symm
  refine ⟨by kernel_rfl, fun j t ht => ?_⟩
  rw [Tryd.params8] at ht
  have hm := Array.mem_of_getElem? ht
  have hm' : t = 3 := by simpa using hm
  rcases hm' with rfl
  · exact (show Tryd.prog.wantsStandIn 3 = false by kernel_rfl)

/-- The card. -/
theorem card : Rows.InstCountsCardSaid :=
  Claim7.holds_tied_plain_at .later [] _ _ _ _ said (fun _ h => by cases h) (by kernel_rfl) (fun _ h => by cases h) instCounts_row_tie rfl ⟨rfl, rfl⟩ (by kernel_rfl) rfl plain (by kernel_rfl)
end Go.Proofs.YtihgkmjlefaaoaaDoor.instCounts
