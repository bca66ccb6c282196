/- The law HexNotes: for every three strings it returns true, and all read as before. The tables that it reads hold what the program's text lays (the card ties them). No other condition. -/
import Derived.Test.YtlbaejebgldlkaaDoorHexW
namespace Go.Proofs.YtlbaejebgldlkaaDoor.hexNotes
open Go.ChangeShapes Go.WideShapes Go.ChangeAt Go.RowKit
open Go.ChangeMaps (open_string shut_string)
set_option linter.unusedVariables false

theorem list_1 (a n b : ByteArray) : (a ++ (⟨#[35]⟩ : ByteArray) ++ n ++ (⟨#[10]⟩ : ByteArray) ++ b).data.toList = a.data.toList ++ 35 :: (n.data.toList ++ 10 :: b.data.toList) := by simp
theorem list_2 (a b : ByteArray) : (a ++ (⟨#[10]⟩ : ByteArray) ++ b).data.toList = a.data.toList ++ 10 :: b.data.toList := by simp
theorem list_3 (a b : ByteArray) : (a ++ (⟨#[122, 71, 45, 0]⟩ : ByteArray) ++ b).data.toList = a.data.toList ++ 122 :: 71 :: 45 :: 0 :: b.data.toList := by simp
theorem list_two (s t : ByteArray) : (s ++ t).data.toList = s.data.toList ++ t.data.toList := by simp

set_option maxHeartbeats 2000000 in
theorem walk (a0 a1 a2 : ByteArray) (w : World) (ht : Tabs w) :
    Calls Tryd.prog 8 #[.string a0, .string a1, .string a2] w fun e w' => e = .returned (.bool true) ∧ Below w.heap.size w w' := by
  have HT := Lib.hid ht
  clear ht
  by_cases h1 : 1000 < a0.size
  · go_enter Tryd.func8, Tryd.ntmps8
    go_wp2_with fail
    refine (awake_any _ HT.out).mono ?_
    rintro e w1 ⟨rfl, hb⟩
    go_wp2
    go_ret
    exact ⟨rfl, hb⟩
  have n1 : a0.size ≤ 1000 := by omega
  clear h1
  by_cases h2 : 1000 < a1.size
  · go_enter Tryd.func8, Tryd.ntmps8
    go_wp2_with fail
    refine (awake_any _ HT.out).mono ?_
    rintro e w1 ⟨rfl, hb⟩
    go_wp2
    go_ret
    exact ⟨rfl, hb⟩
  have n2 : a1.size ≤ 1000 := by omega
  clear h2
  by_cases h3 : 1000 < a2.size
  · go_enter Tryd.func8, Tryd.ntmps8
    go_wp2_with fail
    refine (awake_any _ HT.out).mono ?_
    rintro e w1 ⟨rfl, hb⟩
    go_wp2
    go_ret
    exact ⟨rfl, hb⟩
  have n3 : a2.size ≤ 1000 := by omega
  clear h3
  have c8 : ∀ w, Calls Tryd.prog 20 #[.string a0, .int .u8 35] w fun e w' => e = .returned (.bool (hasB a0.data.toList 35)) ∧ w' = w := fun w => has_any a0 35 w (by omega)
  have c9 : ∀ w, Calls Tryd.prog 20 #[.string a2, .int .u8 10] w fun e w' => e = .returned (.bool (hasB a2.data.toList 10)) ∧ w' = w := fun w => has_any a2 10 w (by omega)
  cases h4 : hasB a0.data.toList 35 with
  | true =>
    rw [h4] at c8
    have C8 := Lib.hid c8
    clear c8 c9 h4
    go_enter Tryd.func8, Tryd.ntmps8
    go_wp2_with fail
    refine (awake_any _ HT.out).mono ?_
    rintro e w1 ⟨rfl, hb⟩
    go_wp2_with fail
    refine (C8.out _).mono ?_
    rintro e w' ⟨rfl, rfl⟩
    go_wp2
    go_ret
    exact ⟨rfl, hb⟩
  | false =>
    rw [h4] at c8
    have C8 := Lib.hid c8
    clear c8
    cases h5 : hasB a2.data.toList 10 with
    | true =>
      rw [h5] at c9
      have C9 := Lib.hid c9
      clear c9 h4 h5
      go_enter Tryd.func8, Tryd.ntmps8
      go_wp2_with fail
      refine (awake_any _ HT.out).mono ?_
      rintro e w1 ⟨rfl, hb⟩
      go_wp2_with fail
      refine (C8.out _).mono ?_
      rintro e w' ⟨rfl, rfl⟩
      go_wp2_with fail
      refine (C9.out _).mono ?_
      rintro e w' ⟨rfl, rfl⟩
      go_wp2
      go_ret
      exact ⟨rfl, hb⟩
    | false =>
      rw [h5] at c9
      have C9 := Lib.hid c9
      clear c9
      obtain ⟨q1, q2, q3⟩ := load_notes a0.data.toList a1.data.toList a2.data.toList (hasB_no _ _ h4) (hasB_no _ _ h5)
      have s1 : (a0 ++ (⟨#[35]⟩ : ByteArray) ++ a2 ++ (⟨#[10]⟩ : ByteArray) ++ a1).size ≤ 10000 := by rw [← list_size, list_1]; simp; omega
      have s2 : (a0 ++ (⟨#[10]⟩ : ByteArray) ++ a1).size ≤ 10000 := by rw [← list_size, list_2]; simp; omega
      have s3 : (a0 ++ (⟨#[122, 71, 45, 0]⟩ : ByteArray) ++ a1).size ≤ 10000 := by rw [← list_size, list_3]; simp; omega
      have s4 : (a0 ++ a1).size ≤ 10000 := by rw [← list_size, list_two]; simp; omega
      have c1 := fun w ht => load_hex (a0 ++ (⟨#[35]⟩ : ByteArray) ++ a2 ++ (⟨#[10]⟩ : ByteArray) ++ a1) w (by omega) ht
      have c2 := fun w ht => load_hex (a0 ++ (⟨#[10]⟩ : ByteArray) ++ a1) w (by omega) ht
      have c3 := fun w ht => load_hex (a0 ++ (⟨#[122, 71, 45, 0]⟩ : ByteArray) ++ a1) w (by omega) ht
      have c4 := fun w ht => load_hex (a0 ++ a1) w (by omega) ht
      rw [list_1, q1] at c1
      rw [list_2, q2] at c2
      rw [list_3, q3] at c3
      rw [list_two] at c4
      obtain ⟨R, hR⟩ : ∃ R : ByteArray, (⟨(load (a0.data.toList ++ a1.data.toList)).toArray⟩ : ByteArray) = R := ⟨_, rfl⟩
      rw [hR] at c1 c2 c3 c4
      have C1 := Lib.hid c1
      have C2 := Lib.hid c2
      have C3 := Lib.hid c3
      have C4 := Lib.hid c4
      clear c1 c2 c3 c4 hR q1 q2 q3 h4 h5 s1 s2 s3 s4
      go_enter Tryd.func8, Tryd.ntmps8
      go_wp2_with fail
      refine (awake_any _ HT.out).mono ?_
      rintro e w1 ⟨rfl, k1⟩
      go_wp2_with fail
      refine (C8.out _).mono ?_
      rintro e w' ⟨rfl, rfl⟩
      go_wp2_with fail
      refine (C9.out _).mono ?_
      rintro e w' ⟨rfl, rfl⟩
      have T1 := Lib.hid (HT.out.below k1)
      go_wp2_with fail
      refine (C1.out _ T1.out).mono ?_
      rintro e w2 ⟨rfl, b2⟩
      have k2 := k1.trans (b2.mono k1.size)
      have T2 := Lib.hid (HT.out.below k2)
      go_wp2_with fail
      refine (C4.out _ T2.out).mono ?_
      rintro e w3 ⟨rfl, b3⟩
      have k3 := k2.trans (b3.mono k2.size)
      have T3 := Lib.hid (HT.out.below k3)
      go_wp2_with fail
      refine (C2.out _ T3.out).mono ?_
      rintro e w4 ⟨rfl, b4⟩
      have k4 := k3.trans (b4.mono k3.size)
      have T4 := Lib.hid (HT.out.below k4)
      go_wp2_with fail
      refine (C4.out _ T4.out).mono ?_
      rintro e w5 ⟨rfl, b5⟩
      have k5 := k4.trans (b5.mono k4.size)
      have T5 := Lib.hid (HT.out.below k5)
      go_wp2_with fail
      refine (C3.out _ T5.out).mono ?_
      rintro e w6 ⟨rfl, b6⟩
      have k6 := k5.trans (b6.mono k5.size)
      have T6 := Lib.hid (HT.out.below k6)
      go_wp2_with fail
      refine (C4.out _ T6.out).mono ?_
      rintro e w7 ⟨rfl, b7⟩
      have k7 := k6.trans (b7.mono k6.size)
      have T7 := Lib.hid (HT.out.below k7)
      go_wp2
      go_ret
      exact ⟨rfl, k7⟩

theorem contract (H : Type) (enc : TypeId × Value → H) (W : World) (base : Nat) (args : Array Value) (ds gs : List (DataW H)) (before : List MemPlace)
    (hval : ∀ (j : Nat) t v, Tryd.f8.params[j]? = some t → args[j]? = some v → Value.okWide Tryd.prog W .any base t v)
    (hW : DataW.Whole enc Tryd.prog Tryd.f8.params.toList Rows.hexNotesSpec.vars false W args.toList ds gs before) (hL : laidMetH Tryd.prog Rows.hexNotesRow.laid W) :
    Calls Tryd.prog 8 args W fun e W' => ∃ v, e = .returned v ∧ Rows.hexNotesSpec.post enc Tryd.prog Tryd.f8 false true false false W args v W' := by
  have hW' := hW
  obtain ⟨p, q, hA0, hV, rfl, hfz, hnd⟩ := hW
  have hA : DataW.TrodAll enc Tryd.prog W 0 (fun _ => true) true Tryd.f8.params.toList args.toList ds p := hA0
  rw [Tryd.params8] at hA hval
  obtain ⟨v0, vs0, d0, ds0, p0, q0, hargs, rfl, rfl, h0, r0⟩ := trodAll_cons hA
  obtain ⟨v1, vs1, d1, ds1, p1, q1, rfl, rfl, rfl, h1, r1⟩ := trodAll_cons r0
  obtain ⟨v2, vs2, d2, ds2, p2, q2, rfl, rfl, rfl, h2, r2⟩ := trodAll_cons r1
  obtain ⟨rfl, rfl, rfl⟩ := trodAll_nil r2
  obtain rfl : args = #[v0, v1, v2] := by cases args; simp_all
  obtain ⟨rfl, rfl⟩ := trodVars_none hV
  obtain ⟨a0, rfl, rfl, rfl, w0⟩ := open_string Tryd.underlying9 (hval 0 9 v0 rfl rfl) h0
  obtain ⟨a1, rfl, rfl, rfl, w1⟩ := open_string Tryd.underlying9 (hval 1 9 v1 rfl rfl) h1
  obtain ⟨a2, rfl, rfl, rfl, w2⟩ := open_string Tryd.underlying9 (hval 2 9 v2 rfl rfl) h2
  clear hA0
  simp only [List.append_nil] at hW'
  refine (walk a0 a1 a2 W (tabs_of hL)).mono fun e W' ⟨he, hg⟩ => ?_
  subst he
  exact ⟨_, rfl, _, _, _, [], [], [], hW', trodAll_mk1 (shut_bool Tryd.underlying4 _), (trodAll_cons_mk (shut_string Tryd.underlying9 w0) (trodAll_cons_mk (shut_string Tryd.underlying9 w1) (trodAll_cons_mk (shut_string Tryd.underlying9 w2) trodAll_mk0))), rfl, hg.frame _, fun h => by cases h⟩

theorem laid_met (os : Os) : laidMet Tryd.prog Rows.hexNotesRow.laid ((laidWorld os).forCall (fun _ _ => 0) ⟨#[], #[.string ByteArray.empty, .string ByteArray.empty, .string ByteArray.empty], []⟩).memory :=
  laidMet_of_run' 8 (by kernel_rfl) (by kernel_rfl)
theorem reads (os : Os) {H : Type} (enc : TypeId × Value → H) : ∃ places, DataW.whole enc Tryd.prog ((laidWorld os).forCall (fun _ _ => 0) ⟨#[], #[.string ByteArray.empty, .string ByteArray.empty, .string ByteArray.empty], []⟩).memory Tryd.f8.params.toList Rows.hexNotesSpec.vars false (#[.string ByteArray.empty, .string ByteArray.empty, .string ByteArray.empty] : Array Value).toList 8 = some ([.lit (.string []), .lit (.string []), .lit (.string [])], [], places) :=
  ⟨[], by kernel_rfl⟩

set_option maxRecDepth 100000 in
theorem lifted (os : Os) (started : os.Started) (H : Type) (enc : TypeId × Value → H) (F : Stop.Interp) :
    ReturnsInHanded {} Tryd.checked os 8 .any ((OpenSpec.ofChange Rows.hexNotesSpec).preRow enc Tryd.prog Tryd.f8 Rows.hexNotesRow.domain false Rows.hexNotesRow.laid) (((OpenSpec.ofChange Rows.hexNotesSpec).at F).post enc Tryd.prog Tryd.f8 false true false false) := by
  obtain ⟨places, hx⟩ := reads os enc
  refine returnsInHanded_of_row (C := Tryd.checked) (s := OpenSpec.ofChange Rows.hexNotesSpec) own started (by kernel_rfl) Tryd.func8
    (witness_row_at (enc := enc) (C := Tryd.checked) false (laidWorld os) #[.string ByteArray.empty, .string ByteArray.empty, .string ByteArray.empty] rfl (by kernel_rfl) (by kernel_rfl) (by kernel_rfl)
      (OpenSpec.preRow_of_cond 8 hx (by kernel_rfl) (fun k hk => by cases hk) (by kernel_rfl) (laid_met os))) ?_
  intro W base args ds gs before hval hW _ _ _ hL _ _
  exact contract H enc W base args ds gs before hval hW hL

theorem said : Rows.HexNotesSaid :=
  OpenClaim.holds_of_cond 8 Tryd.f8 rfl rfl rfl rfl rfl rfl rfl ⟨rfl, rfl, rfl, rfl, rfl⟩ rfl rfl rfl rfl rfl (by kernel_rfl) Tryd.func8 (by kernel_rfl)
    (of_decide_eq_true (by kernel_rfl)) (by unfold Func.isWrapper; first | (rw [if_pos (by decide +kernel)]; kernel_rfl) | (rw [if_neg (by decide +kernel)]; exact ⟨rfl, rfl⟩))
    (fun os started H enc _ F => by rw [OpenClaim.pre_eq_preRow]; exact lifted os started H enc F)

theorem plain (f : FuncId) (fn : Func) (hf : Tryd.pinned.checked.prog.funcNamed "seedcorn/seedcornlaw02.HexNotes" = some f) (hfn : Tryd.pinned.checked.prog.funcs[f]? = some fn) :
    false = Tryd.pinned.checked.prog.looks [] ∧ ∀ (j : Nat) t, fn.params[j]? = some t → Tryd.pinned.checked.prog.wantsStandIn t = false := by
  obtain rfl : f = 8 := Option.some.inj ((show Tryd.prog.funcNamed "seedcorn/seedcornlaw02.HexNotes" = some 8 by kernel_rfl).symm.trans hf) |>.symm
  obtain rfl : fn = Tryd.f8 := (Option.some.inj (Tryd.func8.symm.trans hfn)).symm
  refine ⟨by kernel_rfl, fun j t ht => ?_⟩
  rw [Tryd.params8] at ht
  have hm := Array.mem_of_getElem? ht
  obtain rfl : t = 9 := by simpa using hm
  exact (show Tryd.prog.wantsStandIn 9 = false by kernel_rfl)

/-- The card. -/
theorem card : Rows.HexNotesCardSaid :=
  Claim7.holds_tied_plain_at .later [] _ _ _ _ said (fun _ h => by cases h) (by kernel_rfl) (fun _ h => by cases h) hexNotes_row_tie rfl ⟨rfl, rfl⟩ (by kernel_rfl) rfl plain (by kernel_rfl)
end Go.Proofs.YtlbaejebgldlkaaDoor.hexNotes
