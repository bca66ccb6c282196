/- The law InstNames: for every operation and name it returns true, and all read as before. The tables that it reads hold what the program's text lays (the card ties them). No other condition. -/
import Derived.Test.YtihgkmjlefaaoaaDoorInsQ
import Derived.Test.YtihgkmjlefaaoaaDoorInsR
import Derived.Test.YtihgkmjlefaaoaaDoorInsW
import Derived.Deep.DeepCutAuto
import Derived.Deep.RegionHeld3
namespace Go.Proofs.YtihgkmjlefaaoaaDoor.instNames
open Go.ChangeShapes Go.WideShapes Go.ChangeAt Go.RowKit
open Go.ChangeMaps (open_string shut_string)
set_option linter.unusedVariables false

set_option maxRecDepth 100000 in
set_option maxHeartbeats 4000000 in
theorem walk_long {op : Int} {s : ByteArray} (hs : 100 < s.size) (w : World) (ht : Tabs w) :
    Calls Tryd.prog 5 #[.int .i64 op, .string s] w fun e w' => e = .returned (.bool true) ∧ Below w.heap.size w w' := by
  have CA := Lib.hid (fun w ht => awake7 w ht)
  have i0 : (100 : Int) < (s.size : Int) := by omega
  have HT := Lib.hid ht
  have HK := Lib.hid (Kx.nil none w)
  clear ht hs
  go_enter Tryd.func5, Tryd.ntmps5
  go_wp2_with fail
  refine (CA.out _ (HT.out.oldn HK.out)).mono ?_
  rintro e w1 ⟨rfl, hb⟩
  replace HK := Lib.hid (HK.out.after hb)
  clear hb
  go_wp2_with fail
  go_ret
  exact ⟨rfl, HK.out.be.plain⟩
theorem nam_size (op : Int) : (⟨(nam op).toArray⟩ : ByteArray).size ≤ 4 := by
  have h : ∀ k, k < 27 → (nml.getD k []).length ≤ 4 := by decide
  show (nam op).toArray.size ≤ 4
  rw [List.size_toArray]
  unfold nam
  split
  · exact h _ (by omega)
  · simp
set_option maxRecDepth 100000 in
set_option maxHeartbeats 4000000 in
theorem walk_short {op : Int} {s : ByteArray} (hs : s.size ≤ 100) (w : World) (ht : Tabs w) :
    Calls Tryd.prog 5 #[.int .i64 op, .string s] w fun e w' => e = .returned (.bool true) ∧ Below w.heap.size w w' := by
  have CA := Lib.hid (fun w ht => awake7 w ht)
  have c1 := fun w ht => name7 op w ht
  have c2 := fun w => name_ref op w
  have c3 := fun w ht => op7 s w hs ht
  have c4 := fun w => op_ref s w
  have c5 := fun w ht => op7 ⟨(nam op).toArray⟩ w (by have := nam_size op; omega) ht
  have c6 := fun w ht => name7 (opo s.data.toList) w ht
  have hk := opo_some s.data.toList
  have i0 : ¬ (100 : Int) < (s.size : Int) := by omega
  obtain ⟨k, hk2⟩ : ∃ k, opo s.data.toList = k := ⟨_, rfl⟩
  rw [hk2] at c3 c4 c6 hk
  have HT := Lib.hid ht
  have HK := Lib.hid (Kx.nil none w)
  clear hs hk2
  by_cases ho : 1 ≤ op ∧ op ≤ 27
  · rcases hk with rfl | hk
    · have hk : True := trivial
      rw [show (⟨(nam op).toArray⟩ : ByteArray).data.toList = nam op from rfl, opo_nam ho] at c5
      have e1 : ((⟨(nam op).toArray⟩ : ByteArray).toList == []) = false := by
        rw [ByteArray.toList_eq, beq_eq_false_iff_ne]; exact nam_some ho
      obtain ⟨NM, hNM⟩ : ∃ S : ByteArray, ⟨(nam op).toArray⟩ = S := ⟨_, rfl⟩
      rw [hNM] at c1 c2 c5 e1
      have C1 := Lib.hid c1
      have C2 := Lib.hid c2
      have C3 := Lib.hid c3
      have C4 := Lib.hid c4
      have C5 := Lib.hid c5
      clear c1 c2 c3 c4 c5 c6 hk ho ht hNM
      go_enter Tryd.func5, Tryd.ntmps5
      go_wp2_with fail
      refine (CA.out _ (HT.out.oldn HK.out)).mono ?_
      rintro e w1 ⟨rfl, hb⟩
      replace HK := Lib.hid (HK.out.after hb)
      clear hb
      go_wp2_with fail
      refine (C1.out _ (HT.out.oldn HK.out)).mono ?_
      rintro e w2 ⟨rfl, hb⟩
      replace HK := Lib.hid (HK.out.after hb)
      clear hb
      go_wp2_with fail
      refine (C3.out _ (HT.out.oldn HK.out)).mono ?_
      rintro e w3 ⟨rfl, hb⟩
      replace HK := Lib.hid (HK.out.after hb)
      clear hb
      go_wp2_with fail
      refine (C2.out _).mono ?_
      rintro e w4 ⟨rfl, rfl⟩
      go_wp2_with fail
      refine (C4.out _).mono ?_
      rintro e w4 ⟨rfl, rfl⟩
      go_wp2_with fail
      refine (C5.out _ (HT.out.oldn HK.out)).mono ?_
      rintro e w5 ⟨rfl, hb⟩
      replace HK := Lib.hid (HK.out.after hb)
      clear hb
      go_wp2_with fail
      go_ret
      exact ⟨rfl, HK.out.be.plain⟩
    · skip
      rw [show (⟨(nam op).toArray⟩ : ByteArray).data.toList = nam op from rfl, opo_nam ho] at c5
      have e1 : ((⟨(nam op).toArray⟩ : ByteArray).toList == []) = false := by
        rw [ByteArray.toList_eq, beq_eq_false_iff_ne]; exact nam_some ho
      obtain ⟨NM, hNM⟩ : ∃ S : ByteArray, ⟨(nam op).toArray⟩ = S := ⟨_, rfl⟩
      rw [hNM] at c1 c2 c5 e1
      obtain ⟨NK, hNK⟩ : ∃ S : ByteArray, ⟨(nam k).toArray⟩ = S := ⟨_, rfl⟩
      have e2 : (NK.toList == s.toList) = true := by rw [← hNK]; exact str_yes hk.2.2
      have e3 : (k == 0) = false := by rw [beq_eq_false_iff_ne]; omega
      rw [hNK] at c6
      have C6 := Lib.hid c6
      clear hNK
      have C1 := Lib.hid c1
      have C2 := Lib.hid c2
      have C3 := Lib.hid c3
      have C4 := Lib.hid c4
      have C5 := Lib.hid c5
      clear c1 c2 c3 c4 c5 c6 hk ho ht hNM
      go_enter Tryd.func5, Tryd.ntmps5
      go_wp2_with fail
      refine (CA.out _ (HT.out.oldn HK.out)).mono ?_
      rintro e w1 ⟨rfl, hb⟩
      replace HK := Lib.hid (HK.out.after hb)
      clear hb
      go_wp2_with fail
      refine (C1.out _ (HT.out.oldn HK.out)).mono ?_
      rintro e w2 ⟨rfl, hb⟩
      replace HK := Lib.hid (HK.out.after hb)
      clear hb
      go_wp2_with fail
      refine (C3.out _ (HT.out.oldn HK.out)).mono ?_
      rintro e w3 ⟨rfl, hb⟩
      replace HK := Lib.hid (HK.out.after hb)
      clear hb
      go_wp2_with fail
      refine (C2.out _).mono ?_
      rintro e w4 ⟨rfl, rfl⟩
      go_wp2_with fail
      refine (C4.out _).mono ?_
      rintro e w4 ⟨rfl, rfl⟩
      go_wp2_with fail
      refine (C5.out _ (HT.out.oldn HK.out)).mono ?_
      rintro e w5 ⟨rfl, hb⟩
      replace HK := Lib.hid (HK.out.after hb)
      clear hb
      go_wp2_with fail
      refine (C6.out _ (HT.out.oldn HK.out)).mono ?_
      rintro e w6 ⟨rfl, hb⟩
      replace HK := Lib.hid (HK.out.after hb)
      clear hb
      go_wp2_with fail
      go_ret
      exact ⟨rfl, HK.out.be.plain⟩
  · rcases hk with rfl | hk
    · have hk : True := trivial
      rw [nam_out ho] at c1 c2
      have C1 := Lib.hid c1
      have C2 := Lib.hid c2
      have C3 := Lib.hid c3
      have C4 := Lib.hid c4
      clear c1 c2 c3 c4 c5 c6 hk ho ht
      go_enter Tryd.func5, Tryd.ntmps5
      go_wp2_with fail
      refine (CA.out _ (HT.out.oldn HK.out)).mono ?_
      rintro e w1 ⟨rfl, hb⟩
      replace HK := Lib.hid (HK.out.after hb)
      clear hb
      go_wp2_with fail
      refine (C1.out _ (HT.out.oldn HK.out)).mono ?_
      rintro e w2 ⟨rfl, hb⟩
      replace HK := Lib.hid (HK.out.after hb)
      clear hb
      go_wp2_with fail
      refine (C3.out _ (HT.out.oldn HK.out)).mono ?_
      rintro e w3 ⟨rfl, hb⟩
      replace HK := Lib.hid (HK.out.after hb)
      clear hb
      go_wp2_with fail
      refine (C2.out _).mono ?_
      rintro e w4 ⟨rfl, rfl⟩
      go_wp2_with fail
      refine (C4.out _).mono ?_
      rintro e w4 ⟨rfl, rfl⟩
      go_wp2_with fail
      go_ret
      exact ⟨rfl, HK.out.be.plain⟩
    · skip
      rw [nam_out ho] at c1 c2
      obtain ⟨NK, hNK⟩ : ∃ S : ByteArray, ⟨(nam k).toArray⟩ = S := ⟨_, rfl⟩
      have e2 : (NK.toList == s.toList) = true := by rw [← hNK]; exact str_yes hk.2.2
      have e3 : (k == 0) = false := by rw [beq_eq_false_iff_ne]; omega
      rw [hNK] at c6
      have C6 := Lib.hid c6
      clear hNK
      have C1 := Lib.hid c1
      have C2 := Lib.hid c2
      have C3 := Lib.hid c3
      have C4 := Lib.hid c4
      clear c1 c2 c3 c4 c5 c6 hk ho ht
      go_enter Tryd.func5, Tryd.ntmps5
      go_wp2_with fail
      refine (CA.out _ (HT.out.oldn HK.out)).mono ?_
      rintro e w1 ⟨rfl, hb⟩
      replace HK := Lib.hid (HK.out.after hb)
      clear hb
      go_wp2_with fail
      refine (C1.out _ (HT.out.oldn HK.out)).mono ?_
      rintro e w2 ⟨rfl, hb⟩
      replace HK := Lib.hid (HK.out.after hb)
      clear hb
      go_wp2_with fail
      refine (C3.out _ (HT.out.oldn HK.out)).mono ?_
      rintro e w3 ⟨rfl, hb⟩
      replace HK := Lib.hid (HK.out.after hb)
      clear hb
      go_wp2_with fail
      refine (C2.out _).mono ?_
      rintro e w4 ⟨rfl, rfl⟩
      go_wp2_with fail
      refine (C4.out _).mono ?_
      rintro e w4 ⟨rfl, rfl⟩
      go_wp2_with fail
      refine (C6.out _ (HT.out.oldn HK.out)).mono ?_
      rintro e w6 ⟨rfl, hb⟩
      replace HK := Lib.hid (HK.out.after hb)
      clear hb
      go_wp2_with fail
      go_ret
      exact ⟨rfl, HK.out.be.plain⟩
theorem walk {op : Int} {s : ByteArray} (w : World) (ht : Tabs w) :
    Calls Tryd.prog 5 #[.int .i64 op, .string s] w fun e w' => e = .returned (.bool true) ∧ Below w.heap.size w w' := by
  by_cases hs : s.size ≤ 100
  · exact walk_short hs w ht
  · exact walk_long (by omega) w ht

set_option maxRecDepth 100000 in
theorem contract (H : Type) (enc : TypeId × Value → H) (W : World) (base : Nat) (args : Array Value) (ds gs : List (DataW H)) (before : List MemPlace)
    (hval : ∀ (j : Nat) t v, Tryd.f5.params[j]? = some t → args[j]? = some v → Value.okWide Tryd.prog W .any base t v)
    (hW : DataW.Whole enc Tryd.prog Tryd.f5.params.toList Rows.instNamesSpec.vars false W args.toList ds gs before) (hL : laidMetH Tryd.prog Rows.instNamesRow.laid W) :
    Calls Tryd.prog 5 args W fun e W' => ∃ v, e = .returned v ∧ Rows.instNamesSpec.post enc Tryd.prog Tryd.f5 false true false false W args v W' := by
  have hW' := hW
  obtain ⟨p, q, hA0, hV, rfl, hfz, hnd⟩ := hW
  have hA : DataW.TrodAll enc Tryd.prog W 0 (fun _ => true) true Tryd.f5.params.toList args.toList ds p := hA0
  rw [Tryd.params5] at hA hval
  obtain ⟨v0, vs0, d0, ds0, p0, q0, hargs, rfl, rfl, h0, r0⟩ := trodAll_cons hA
  obtain ⟨v1, vs1, d1, ds1, p1, q1, rfl, rfl, rfl, h1, r1⟩ := trodAll_cons r0
  obtain ⟨rfl, rfl, rfl⟩ := trodAll_nil r1
  obtain rfl : args = #[v0, v1] := by cases args; simp_all
  obtain ⟨rfl, rfl⟩ := trodVars_none hV
  have lt0 : ∀ x ∈ p0, x.block < W.heap.size := by obtain ⟨m, hm⟩ := h0; exact DataW.trod_lt m _ _ _ hm
  have k0 := h0
  obtain ⟨a0, rfl, _, _, w0⟩ := open_int Tryd.underlying3 (hval 0 3 v0 rfl rfl) k0
  have lt1 : ∀ x ∈ p1, x.block < W.heap.size := by obtain ⟨m, hm⟩ := h1; exact DataW.trod_lt m _ _ _ hm
  have k1 := h1
  obtain ⟨a1, rfl, _, _, w1⟩ := open_string Tryd.underlying9 (hval 1 9 v1 rfl rfl) k1
  clear hA0
  refine (walk  W  (tabs_of hL)).mono fun e W' ⟨he, bel⟩ => ?_
  subst he
  exact ⟨_, rfl, _, _, _, [], _, [], hW', trodAll_mk1 (shut_bool Tryd.underlying4 _), (trodAll_cons_mk (Below.trod laidOut (by kernel_rfl) (of_decide_eq_true (by kernel_rfl)) h0 bel lt0) (trodAll_cons_mk (Below.trod laidOut (by kernel_rfl) (of_decide_eq_true (by kernel_rfl)) h1 bel lt1) trodAll_mk0)), rfl, bel.frame _, fun h => by cases h⟩

theorem laid_met (os : Os) : laidMet Tryd.prog Rows.instNamesRow.laid ((laidWorld os).forCall (fun _ _ => 0) ⟨#[], #[.int .i64 0, .string ByteArray.empty], []⟩).memory :=
  laidMet_of_run' 8 (by kernel_rfl) (by kernel_rfl)
theorem reads (os : Os) {H : Type} (enc : TypeId × Value → H) : ∃ places, DataW.whole enc Tryd.prog ((laidWorld os).forCall (fun _ _ => 0) ⟨#[], #[.int .i64 0, .string ByteArray.empty], []⟩).memory Tryd.f5.params.toList Rows.instNamesSpec.vars false (#[.int .i64 0, .string ByteArray.empty] : Array Value).toList 8 = some ([.lit (.int .i64 0), .lit (.string [])], [], places) :=
  ⟨[], by kernel_rfl⟩

set_option maxRecDepth 100000 in
theorem lifted (os : Os) (started : os.Started) (H : Type) (enc : TypeId × Value → H) (F : Stop.Interp) :
    ReturnsInHanded {} Tryd.checked os 5 .any ((OpenSpec.ofChange Rows.instNamesSpec).preRow enc Tryd.prog Tryd.f5 Rows.instNamesRow.domain false Rows.instNamesRow.laid) (((OpenSpec.ofChange Rows.instNamesSpec).at F).post enc Tryd.prog Tryd.f5 false true false false) := by
  obtain ⟨places, hx⟩ := reads os enc
  refine returnsInHanded_of_row (C := Tryd.checked) (s := OpenSpec.ofChange Rows.instNamesSpec) own started (by kernel_rfl) Tryd.func5
    (witness_row_at (enc := enc) (C := Tryd.checked) false (laidWorld os) #[.int .i64 0, .string ByteArray.empty] rfl (by kernel_rfl) (by kernel_rfl) (by kernel_rfl)
      (OpenSpec.preRow_of_cond 8 hx (by kernel_rfl) (fun k hk => by cases hk) (by kernel_rfl) (laid_met os))) ?_
  intro W base args ds gs before hval hW _ _ _ hL _ _
  exact contract H enc W base args ds gs before hval hW hL

theorem said : Rows.InstNamesSaid :=
  OpenClaim.holds_of_cond 5 Tryd.f5 rfl rfl rfl rfl rfl rfl rfl ⟨rfl, rfl, rfl, rfl, rfl⟩ rfl rfl rfl rfl rfl (by kernel_rfl) Tryd.func5 (by kernel_rfl)
    (of_decide_eq_true (by kernel_rfl)) (by unfold Func.isWrapper; first | (rw [if_pos (by decide +kernel)]; kernel_rfl) | (rw [if_neg (by decide +kernel)]; exact ⟨rfl, rfl⟩))
    (fun os started H enc _ F => by rw [OpenClaim.pre_eq_preRow]; exact lifted os started H enc F)

theorem plain (f : FuncId) (fn : Func) (hf : Tryd.pinned.checked.prog.funcNamed "seedcorn/seedcornlaw07.InstNames" = some f) (hfn : Tryd.pinned.checked.prog.funcs[f]? = some fn) :
    false = Tryd.pinned.checked.prog.looks [] ∧ ∀ (j : Nat) t, fn.params[j]? = some t → Tryd.pinned.checked.prog.wantsStandIn t = false := by
  obtain rfl : f = 5 := Option.some.inj ((show Tryd.prog.funcNamed "seedcorn/seedcornlaw07.InstNames" = some 5 by kernel_rfl).symm.trans hf) |>.symm
  obtain rfl : fn = Tryd.f5 := (Option.some.inj (Tryd.func5.symm.trans hfn)).symm
  refine ⟨by kernel_rfl, fun j t ht => ?_⟩
  rw [Tryd.params5] at ht
  have hm := Array.mem_of_getElem? ht
  have hm' : t = 3 ∨ t = 9 := by simpa using hm
  rcases hm' with rfl | rfl
  · exact (show Tryd.prog.wantsStandIn 3 = false by kernel_rfl)
  · exact (show Tryd.prog.wantsStandIn 9 = false by kernel_rfl)

/-- The card. -/
theorem card : Rows.InstNamesCardSaid :=
  Claim7.holds_tied_plain_at .later [] _ _ _ _ said (fun _ h => by cases h) (by kernel_rfl) (fun _ h => by cases h) instNames_row_tie rfl ⟨rfl, rfl⟩ (by kernel_rfl) rfl plain (by kernel_rfl)
end Go.Proofs.YtihgkmjlefaaoaaDoor.instNames
