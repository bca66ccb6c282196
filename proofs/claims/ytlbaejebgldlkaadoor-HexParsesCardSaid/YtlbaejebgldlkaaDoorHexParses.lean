/- The law HexParses: for every string it returns true, and the string reads as before. The tables that it reads hold what the program's text lays (the card ties them). No other condition. -/
import Derived.Test.YtlbaejebgldlkaaDoorHexW
namespace Go.Proofs.YtlbaejebgldlkaaDoor.hexParses
open Go.ChangeShapes Go.WideShapes Go.ChangeAt Go.RowKit
open Go.ChangeMaps (open_string shut_string)
set_option linter.unusedVariables false

theorem prs_err (l : List UInt8) : (prs l).2.2 = 0 ∨ (prs l).2.2 = 3 := by
  unfold prs; split <;> simp
theorem prs_ok (l : List UInt8) (h : (prs l).2.2 = 0) : (prs l).1 = load l ∧ (load l).length = l.length / 2 := by
  unfold prs at h ⊢
  split
  · rename_i h1; rw [if_pos h1] at h; simp at h
  · rename_i h1
    have := nd_le l
    exact ⟨rfl, load_full l (by omega)⟩
theorem size_str (l : List UInt8) : (⟨l.toArray⟩ : ByteArray).size = l.length := by simp [ByteArray.size]

set_option maxHeartbeats 1000000 in
theorem walk (a0 : ByteArray) (w : World) (ht : Tabs w) :
    Calls Tryd.prog 9 #[.string a0] w fun e w' => e = .returned (.bool true) ∧ Below w.heap.size w w' := by
  have HT := Lib.hid ht
  clear ht
  by_cases h1 : 3000 < a0.size
  · go_enter Tryd.func9, Tryd.ntmps9
    go_wp2_with fail
    refine (awake_any _ HT.out).mono ?_
    rintro e w1 ⟨rfl, hb⟩
    go_wp2
    go_ret
    exact ⟨rfl, hb⟩
  have n1 : a0.size ≤ 3000 := by omega
  clear h1
  have c1 := fun w ht => parse_hex a0 w (by omega) ht
  have c2 := fun w ht => load_hex a0 w (by omega) ht
  have hlen := load_len a0.data.toList
  rw [list_size] at hlen
  have hle : ((load a0.data.toList).length : Int) ≤ (a0.size : Int) / 2 := by omega
  rcases prs_err a0.data.toList with h0 | h0
  · obtain ⟨e1, e2⟩ := prs_ok _ h0
    rw [e1, h0] at c1
    rw [list_size] at e2
    have hi : (prs a0.data.toList).2.1 = 0 := by
      have h2 := h0
      unfold prs at h2 ⊢
      split
      · rename_i h3; rw [if_pos h3] at h2; simp at h2
      · rfl
    rw [hi] at c1
    obtain ⟨T, hT⟩ : ∃ T : ByteArray, (⟨(load a0.data.toList).toArray⟩ : ByteArray) = T := ⟨_, rfl⟩
    have hTs : T.size = a0.size / 2 := by rw [← hT, size_str, e2]
    rw [hT] at c1 c2
    have C1 := Lib.hid c1
    have C2 := Lib.hid c2
    have hTi : (T.size : Int) = (a0.size : Int) / 2 := by omega
    have hTb : ((T.size : Int) == (a0.size : Int) / 2) = true := by rw [beq_iff_eq]; exact hTi
    have hTl : (T.size : Int) ≤ (a0.size : Int) / 2 := by omega
    clear c1 c2 hT hi h0 e1 e2 hle hlen hTs hTi
    go_enter Tryd.func9, Tryd.ntmps9
    go_wp2_with fail
    refine (awake_any _ HT.out).mono ?_
    rintro e w1 ⟨rfl, k1⟩
    have T1 := Lib.hid (HT.out.below k1)
    go_wp2_with fail
    refine (C1.out _ T1.out).mono ?_
    rintro e w2 ⟨rfl, b2⟩
    have k2 := k1.trans (b2.mono k1.size)
    have T2 := Lib.hid (HT.out.below k2)
    go_wp2_with fail
    refine (C2.out _ T2.out).mono ?_
    rintro e w3 ⟨rfl, b3⟩
    have k3 := k2.trans (b3.mono k2.size)
    go_wp2
    go_ret
    exact ⟨rfl, k3⟩
  · rw [h0] at c1
    obtain ⟨T, hT⟩ : ∃ T : ByteArray, (⟨(load a0.data.toList).toArray⟩ : ByteArray) = T := ⟨_, rfl⟩
    obtain ⟨U, hU⟩ : ∃ U : ByteArray, (⟨(prs a0.data.toList).1.toArray⟩ : ByteArray) = U := ⟨_, rfl⟩
    obtain ⟨i, hi⟩ : ∃ i : Int, ((prs a0.data.toList).2.1 : Int) = i := ⟨_, rfl⟩
    have hTs : T.size = (load a0.data.toList).length := by rw [← hT, size_str]
    have hTl : (T.size : Int) ≤ (a0.size : Int) / 2 := by omega
    rw [hT] at c2
    rw [hU, hi] at c1
    have C1 := Lib.hid c1
    have C2 := Lib.hid c2
    clear c1 c2 hT hU hi h0 hle hlen hTs
    go_enter Tryd.func9, Tryd.ntmps9
    go_wp2_with fail
    refine (awake_any _ HT.out).mono ?_
    rintro e w1 ⟨rfl, k1⟩
    have T1 := Lib.hid (HT.out.below k1)
    go_wp2_with fail
    refine (C1.out _ T1.out).mono ?_
    rintro e w2 ⟨rfl, b2⟩
    have k2 := k1.trans (b2.mono k1.size)
    have T2 := Lib.hid (HT.out.below k2)
    go_wp2_with fail
    refine (C2.out _ T2.out).mono ?_
    rintro e w3 ⟨rfl, b3⟩
    have k3 := k2.trans (b3.mono k2.size)
    go_wp2
    go_ret
    exact ⟨rfl, k3⟩

theorem contract (H : Type) (enc : TypeId × Value → H) (W : World) (base : Nat) (args : Array Value) (ds gs : List (DataW H)) (before : List MemPlace)
    (hval : ∀ (j : Nat) t v, Tryd.f9.params[j]? = some t → args[j]? = some v → Value.okWide Tryd.prog W .any base t v)
    (hW : DataW.Whole enc Tryd.prog Tryd.f9.params.toList Rows.hexParsesSpec.vars false W args.toList ds gs before) (hL : laidMetH Tryd.prog Rows.hexParsesRow.laid W) :
    Calls Tryd.prog 9 args W fun e W' => ∃ v, e = .returned v ∧ Rows.hexParsesSpec.post enc Tryd.prog Tryd.f9 false true false false W args v W' := by
  have hW' := hW
  obtain ⟨p, q, hA0, hV, rfl, hfz, hnd⟩ := hW
  have hA : DataW.TrodAll enc Tryd.prog W 0 (fun _ => true) true Tryd.f9.params.toList args.toList ds p := hA0
  rw [Tryd.params9] at hA hval
  obtain ⟨v0, vs0, d0, ds0, p0, q0, hargs, rfl, rfl, h0, r0⟩ := trodAll_cons hA
  obtain ⟨rfl, rfl, rfl⟩ := trodAll_nil r0
  obtain rfl : args = #[v0] := by cases args; simp_all
  obtain ⟨rfl, rfl⟩ := trodVars_none hV
  obtain ⟨a0, rfl, rfl, rfl, w0⟩ := open_string Tryd.underlying9 (hval 0 9 v0 rfl rfl) h0
  clear hA0
  simp only [List.append_nil] at hW'
  refine (walk a0 W (tabs_of hL)).mono fun e W' ⟨he, hg⟩ => ?_
  subst he
  exact ⟨_, rfl, _, _, _, [], [], [], hW', trodAll_mk1 (shut_bool Tryd.underlying4 _), (trodAll_cons_mk (shut_string Tryd.underlying9 w0) trodAll_mk0), rfl, hg.frame _, fun h => by cases h⟩

theorem laid_met (os : Os) : laidMet Tryd.prog Rows.hexParsesRow.laid ((laidWorld os).forCall (fun _ _ => 0) ⟨#[], #[.string ByteArray.empty], []⟩).memory :=
  laidMet_of_run' 8 (by kernel_rfl) (by kernel_rfl)
theorem reads (os : Os) {H : Type} (enc : TypeId × Value → H) : ∃ places, DataW.whole enc Tryd.prog ((laidWorld os).forCall (fun _ _ => 0) ⟨#[], #[.string ByteArray.empty], []⟩).memory Tryd.f9.params.toList Rows.hexParsesSpec.vars false (#[.string ByteArray.empty] : Array Value).toList 8 = some ([.lit (.string [])], [], places) :=
  ⟨[], by kernel_rfl⟩

set_option maxRecDepth 100000 in
theorem lifted (os : Os) (started : os.Started) (H : Type) (enc : TypeId × Value → H) (F : Stop.Interp) :
    ReturnsInHanded {} Tryd.checked os 9 .any ((OpenSpec.ofChange Rows.hexParsesSpec).preRow enc Tryd.prog Tryd.f9 Rows.hexParsesRow.domain false Rows.hexParsesRow.laid) (((OpenSpec.ofChange Rows.hexParsesSpec).at F).post enc Tryd.prog Tryd.f9 false true false false) := by
  obtain ⟨places, hx⟩ := reads os enc
  refine returnsInHanded_of_row (C := Tryd.checked) (s := OpenSpec.ofChange Rows.hexParsesSpec) own started (by kernel_rfl) Tryd.func9
    (witness_row_at (enc := enc) (C := Tryd.checked) false (laidWorld os) #[.string ByteArray.empty] rfl (by kernel_rfl) (by kernel_rfl) (by kernel_rfl)
      (OpenSpec.preRow_of_cond 8 hx (by kernel_rfl) (fun k hk => by cases hk) (by kernel_rfl) (laid_met os))) ?_
  intro W base args ds gs before hval hW _ _ _ hL _ _
  exact contract H enc W base args ds gs before hval hW hL

theorem said : Rows.HexParsesSaid :=
  OpenClaim.holds_of_cond 9 Tryd.f9 rfl rfl rfl rfl rfl rfl rfl ⟨rfl, rfl, rfl, rfl, rfl⟩ rfl rfl rfl rfl rfl (by kernel_rfl) Tryd.func9 (by kernel_rfl)
    (of_decide_eq_true (by kernel_rfl)) (by unfold Func.isWrapper; first | (rw [if_pos (by decide +kernel)]; kernel_rfl) | (rw [if_neg (by decide +kernel)]; exact ⟨rfl, rfl⟩))
    (fun os started H enc _ F => by rw [OpenClaim.pre_eq_preRow]; exact lifted os started H enc F)

theorem plain (f : FuncId) (fn : Func) (hf : Tryd.pinned.checked.prog.funcNamed "seedcorn/seedcornlaw02.HexParses" = some f) (hfn : Tryd.pinned.checked.prog.funcs[f]? = some fn) :
    false = Tryd.pinned.checked.prog.looks [] ∧ ∀ (j : Nat) t, fn.params[j]? = some t → Tryd.pinned.checked.prog.wantsStandIn t = false := by
  obtain rfl : f = 9 := Option.some.inj ((show Tryd.prog.funcNamed "seedcorn/seedcornlaw02.HexParses" = some 9 by kernel_rfl).symm.trans hf) |>.symm
  obtain rfl : fn = Tryd.f9 := (Option.some.inj (Tryd.func9.symm.trans hfn)).symm
  refine ⟨by kernel_rfl, fun j t ht => ?_⟩
  rw [Tryd.params9] at ht
  have hm := Array.mem_of_getElem? ht
  obtain rfl : t = 9 := by simpa using hm
  exact (show Tryd.prog.wantsStandIn 9 = false by kernel_rfl)

/-- The card. -/
theorem card : Rows.HexParsesCardSaid :=
  Claim7.holds_tied_plain_at .later [] _ _ _ _ said (fun _ h => by cases h) (by kernel_rfl) (fun _ h => by cases h) hexParses_row_tie rfl ⟨rfl, rfl⟩ (by kernel_rfl) rfl plain (by kernel_rfl)
end Go.Proofs.YtlbaejebgldlkaaDoor.hexParses
