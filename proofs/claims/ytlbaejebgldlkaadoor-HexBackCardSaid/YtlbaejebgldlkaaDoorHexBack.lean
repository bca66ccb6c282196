/- The law HexBack: for every two strings it returns true, and both read as before. The tables that it reads hold what the program's text lays (the card ties them). No other condition. -/
import Derived.Test.YtlbaejebgldlkaaDoorHexW
namespace Go.Proofs.YtlbaejebgldlkaaDoor.hexBack
open Go.ChangeShapes Go.WideShapes Go.ChangeAt Go.RowKit
open Go.ChangeMaps (open_string shut_string)
set_option linter.unusedVariables false

theorem str_back (s : ByteArray) : (⟨s.data.toList.toArray⟩ : ByteArray) = s := by
  apply ByteArray.ext
  simp
theorem str_two (s t : ByteArray) : (⟨(s.data.toList ++ t.data.toList).toArray⟩ : ByteArray) = s ++ t := by
  apply ByteArray.ext
  simp
theorem list_two (s t : ByteArray) : (s ++ t).data.toList = s.data.toList ++ t.data.toList := by simp

set_option maxHeartbeats 2000000 in
theorem walk (a0 a1 : ByteArray) (w : World) (ht : Tabs w) :
    Calls Tryd.prog 7 #[.string a0, .string a1] w fun e w' => e = .returned (.bool true) ∧ Below w.heap.size w w' := by
  have HT := Lib.hid ht
  clear ht
  by_cases h1 : 3000 < a0.size
  · go_enter Tryd.func7, Tryd.ntmps7
    go_wp2_with fail
    refine (awake_any _ HT.out).mono ?_
    rintro e w1 ⟨rfl, hb⟩
    go_wp2
    go_ret
    exact ⟨rfl, hb⟩
  have n1 : a0.size ≤ 3000 := by omega
  clear h1
  by_cases h2 : 3000 < a1.size
  · go_enter Tryd.func7, Tryd.ntmps7
    go_wp2_with fail
    refine (awake_any _ HT.out).mono ?_
    rintro e w1 ⟨rfl, hb⟩
    go_wp2
    go_ret
    exact ⟨rfl, hb⟩
  have n2 : a1.size ≤ 3000 := by omega
  clear h2
  obtain ⟨hn, hl⟩ := nd_txt a0.data.toList
  obtain ⟨hn2, hl2⟩ := nd_txt a1.data.toList
  have hd := dm_len 0 a0.data.toList (by rw [list_size]; omega)
  rw [list_size] at hl hl2 hd
  have c1 := fun w ht => text_hex a0 w (by omega) ht
  have c2 := fun w ht => text_hex a1 w (by omega) ht
  have c3 := fun w ht => dump_hex a0 w (by omega) ht
  obtain ⟨X, hX⟩ : ∃ T : ByteArray, (⟨(txt a0.data.toList).toArray⟩ : ByteArray) = T := ⟨_, rfl⟩
  obtain ⟨Y, hY⟩ : ∃ T : ByteArray, (⟨(txt a1.data.toList).toArray⟩ : ByteArray) = T := ⟨_, rfl⟩
  obtain ⟨D, hD⟩ : ∃ T : ByteArray, (⟨(dm 0 a0.data.toList).toArray⟩ : ByteArray) = T := ⟨_, rfl⟩
  have hXl : X.data.toList = txt a0.data.toList := by rw [← hX]
  have hYl : Y.data.toList = txt a1.data.toList := by rw [← hY]
  have hDl : D.data.toList = dm 0 a0.data.toList := by rw [← hD]
  have hXs : X.size ≤ 60000 := by rw [← list_size, hXl]; omega
  have hYs : Y.size ≤ 60000 := by rw [← list_size, hYl]; omega
  have hDs : D.size ≤ 60000 := by rw [← list_size, hDl]; omega
  have hDY : (D ++ Y).size ≤ 120000 := by rw [← list_size, list_two, List.length_append, list_size, list_size]; omega
  have hYD : (Y ++ D).size ≤ 120000 := by rw [← list_size, list_two, List.length_append, list_size, list_size]; omega
  rw [hX] at c1
  rw [hY] at c2
  rw [hD] at c3
  have c4 := fun w ht => load_hex X w (by omega) ht
  have c5 := fun w ht => load_hex D w (by omega) ht
  have c6 := fun w ht => load_hex (D ++ Y) w (by omega) ht
  have c7 := fun w ht => load_hex (Y ++ D) w (by omega) ht
  rw [hXl, load_txt, str_back] at c4
  rw [hDl, load_dm, str_back] at c5
  rw [list_two, hDl, hYl, load_dm_txt, str_two] at c6
  rw [list_two, hDl, hYl, load_txt_dm, str_two] at c7
  have C1 := Lib.hid c1
  have C2 := Lib.hid c2
  have C3 := Lib.hid c3
  have C4 := Lib.hid c4
  have C5 := Lib.hid c5
  have C6 := Lib.hid c6
  have C7 := Lib.hid c7
  clear c1 c2 c3 c4 c5 c6 c7 hX hY hD hXl hYl hDl hn hl hn2 hl2 hd hDY hYD
  go_enter Tryd.func7, Tryd.ntmps7
  go_wp2_with fail
  refine (awake_any _ HT.out).mono ?_
  rintro e w1 ⟨rfl, k1⟩
  have T1 := Lib.hid (HT.out.below k1)
  go_wp2_with fail
  refine (C1.out _ T1.out).mono ?_
  rintro e w2 ⟨rfl, b2⟩
  have k2 := k1.trans (b2.mono k1.size)
  have T2 := Lib.hid (HT.out.below k2)
  go_wp2_with fail
  refine (C4.out _ T2.out).mono ?_
  rintro e w3 ⟨rfl, b3⟩
  have k3 := k2.trans (b3.mono k2.size)
  have T3 := Lib.hid (HT.out.below k3)
  go_wp2_with fail
  refine (C3.out _ T3.out).mono ?_
  rintro e w4 ⟨rfl, b4⟩
  have k4 := k3.trans (b4.mono k3.size)
  have T4 := Lib.hid (HT.out.below k4)
  go_wp2_with fail
  refine (C5.out _ T4.out).mono ?_
  rintro e w5 ⟨rfl, b5⟩
  have k5 := k4.trans (b5.mono k4.size)
  have T5 := Lib.hid (HT.out.below k5)
  go_wp2_with fail
  refine (C3.out _ T5.out).mono ?_
  rintro e w6 ⟨rfl, b6⟩
  have k6 := k5.trans (b6.mono k5.size)
  have T6 := Lib.hid (HT.out.below k6)
  go_wp2_with fail
  refine (C2.out _ T6.out).mono ?_
  rintro e w7 ⟨rfl, b7⟩
  have k7 := k6.trans (b7.mono k6.size)
  have T7 := Lib.hid (HT.out.below k7)
  go_wp2_with fail
  refine (C6.out _ T7.out).mono ?_
  rintro e w8 ⟨rfl, b8⟩
  have k8 := k7.trans (b8.mono k7.size)
  have T8 := Lib.hid (HT.out.below k8)
  go_wp2_with fail
  refine (C2.out _ T8.out).mono ?_
  rintro e w9 ⟨rfl, b9⟩
  have k9 := k8.trans (b9.mono k8.size)
  have T9 := Lib.hid (HT.out.below k9)
  go_wp2_with fail
  refine (C3.out _ T9.out).mono ?_
  rintro e w10 ⟨rfl, b10⟩
  have k10 := k9.trans (b10.mono k9.size)
  have T10 := Lib.hid (HT.out.below k10)
  go_wp2_with fail
  refine (C7.out _ T10.out).mono ?_
  rintro e w11 ⟨rfl, b11⟩
  have k11 := k10.trans (b11.mono k10.size)
  have T11 := Lib.hid (HT.out.below k11)
  go_wp2
  go_ret
  exact ⟨rfl, k11⟩

theorem contract (H : Type) (enc : TypeId × Value → H) (W : World) (base : Nat) (args : Array Value) (ds gs : List (DataW H)) (before : List MemPlace)
    (hval : ∀ (j : Nat) t v, Tryd.f7.params[j]? = some t → args[j]? = some v → Value.okWide Tryd.prog W .any base t v)
    (hW : DataW.Whole enc Tryd.prog Tryd.f7.params.toList Rows.hexBackSpec.vars false W args.toList ds gs before) (hL : laidMetH Tryd.prog Rows.hexBackRow.laid W) :
    Calls Tryd.prog 7 args W fun e W' => ∃ v, e = .returned v ∧ Rows.hexBackSpec.post enc Tryd.prog Tryd.f7 false true false false W args v W' := by
  have hW' := hW
  obtain ⟨p, q, hA0, hV, rfl, hfz, hnd⟩ := hW
  have hA : DataW.TrodAll enc Tryd.prog W 0 (fun _ => true) true Tryd.f7.params.toList args.toList ds p := hA0
  rw [Tryd.params7] at hA hval
  obtain ⟨v0, vs0, d0, ds0, p0, q0, hargs, rfl, rfl, h0, r0⟩ := trodAll_cons hA
  obtain ⟨v1, vs1, d1, ds1, p1, q1, rfl, rfl, rfl, h1, r1⟩ := trodAll_cons r0
  obtain ⟨rfl, rfl, rfl⟩ := trodAll_nil r1
  obtain rfl : args = #[v0, v1] := by cases args; simp_all
  obtain ⟨rfl, rfl⟩ := trodVars_none hV
  obtain ⟨a0, rfl, rfl, rfl, w0⟩ := open_string Tryd.underlying9 (hval 0 9 v0 rfl rfl) h0
  obtain ⟨a1, rfl, rfl, rfl, w1⟩ := open_string Tryd.underlying9 (hval 1 9 v1 rfl rfl) h1
  clear hA0
  simp only [List.append_nil] at hW'
  refine (walk a0 a1 W (tabs_of hL)).mono fun e W' ⟨he, hg⟩ => ?_
  subst he
  exact ⟨_, rfl, _, _, _, [], [], [], hW', trodAll_mk1 (shut_bool Tryd.underlying4 _), (trodAll_cons_mk (shut_string Tryd.underlying9 w0) (trodAll_cons_mk (shut_string Tryd.underlying9 w1) trodAll_mk0)), rfl, hg.frame _, fun h => by cases h⟩

theorem laid_met (os : Os) : laidMet Tryd.prog Rows.hexBackRow.laid ((laidWorld os).forCall (fun _ _ => 0) ⟨#[], #[.string ByteArray.empty, .string ByteArray.empty], []⟩).memory :=
  laidMet_of_run' 8 (by kernel_rfl) (by kernel_rfl)
theorem reads (os : Os) {H : Type} (enc : TypeId × Value → H) : ∃ places, DataW.whole enc Tryd.prog ((laidWorld os).forCall (fun _ _ => 0) ⟨#[], #[.string ByteArray.empty, .string ByteArray.empty], []⟩).memory Tryd.f7.params.toList Rows.hexBackSpec.vars false (#[.string ByteArray.empty, .string ByteArray.empty] : Array Value).toList 8 = some ([.lit (.string []), .lit (.string [])], [], places) :=
  ⟨[], by kernel_rfl⟩

set_option maxRecDepth 100000 in
theorem lifted (os : Os) (started : os.Started) (H : Type) (enc : TypeId × Value → H) (F : Stop.Interp) :
    ReturnsInHanded {} Tryd.checked os 7 .any ((OpenSpec.ofChange Rows.hexBackSpec).preRow enc Tryd.prog Tryd.f7 Rows.hexBackRow.domain false Rows.hexBackRow.laid) (((OpenSpec.ofChange Rows.hexBackSpec).at F).post enc Tryd.prog Tryd.f7 false true false false) := by
  obtain ⟨places, hx⟩ := reads os enc
  refine returnsInHanded_of_row (C := Tryd.checked) (s := OpenSpec.ofChange Rows.hexBackSpec) own started (by kernel_rfl) Tryd.func7
    (witness_row_at (enc := enc) (C := Tryd.checked) false (laidWorld os) #[.string ByteArray.empty, .string ByteArray.empty] rfl (by kernel_rfl) (by kernel_rfl) (by kernel_rfl)
      (OpenSpec.preRow_of_cond 8 hx (by kernel_rfl) (fun k hk => by cases hk) (by kernel_rfl) (laid_met os))) ?_
  intro W base args ds gs before hval hW _ _ _ hL _ _
  exact contract H enc W base args ds gs before hval hW hL

theorem said : Rows.HexBackSaid :=
  OpenClaim.holds_of_cond 7 Tryd.f7 rfl rfl rfl rfl rfl rfl rfl ⟨rfl, rfl, rfl, rfl, rfl⟩ rfl rfl rfl rfl rfl (by kernel_rfl) Tryd.func7 (by kernel_rfl)
    (of_decide_eq_true (by kernel_rfl)) (by unfold Func.isWrapper; first | (rw [if_pos (by decide +kernel)]; kernel_rfl) | (rw [if_neg (by decide +kernel)]; exact ⟨rfl, rfl⟩))
    (fun os started H enc _ F => by rw [OpenClaim.pre_eq_preRow]; exact lifted os started H enc F)

theorem plain (f : FuncId) (fn : Func) (hf : Tryd.pinned.checked.prog.funcNamed "seedcorn/seedcornlaw02.HexBack" = some f) (hfn : Tryd.pinned.checked.prog.funcs[f]? = some fn) :
    false = Tryd.pinned.checked.prog.looks [] ∧ ∀ (j : Nat) t, fn.params[j]? = some t → Tryd.pinned.checked.prog.wantsStandIn t = false := by
  obtain rfl : f = 7 := Option.some.inj ((show Tryd.prog.funcNamed "seedcorn/seedcornlaw02.HexBack" = some 7 by kernel_rfl).symm.trans hf) |>.symm
  obtain rfl : fn = Tryd.f7 := (Option.some.inj (Tryd.func7.symm.trans hfn)).symm
  refine ⟨by kernel_rfl, fun j t ht => ?_⟩
  rw [Tryd.params7] at ht
  have hm := Array.mem_of_getElem? ht
  obtain rfl : t = 9 := by simpa using hm
  exact (show Tryd.prog.wantsStandIn 9 = false by kernel_rfl)

/-- The card. -/
theorem card : Rows.HexBackCardSaid :=
  Claim7.holds_tied_plain_at .later [] _ _ _ _ said (fun _ h => by cases h) (by kernel_rfl) (fun _ h => by cases h) hexBack_row_tie rfl ⟨rfl, rfl⟩ (by kernel_rfl) rfl plain (by kernel_rfl)
end Go.Proofs.YtlbaejebgldlkaaDoor.hexBack
