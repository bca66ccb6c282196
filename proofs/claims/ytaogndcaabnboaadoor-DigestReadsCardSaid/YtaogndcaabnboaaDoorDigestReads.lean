/- The law DigestReads: for every string it returns true, and the string reads as before. The tables that it reads hold what the program's text lays (the card ties them). No other condition. -/
import Derived.Test.YtaogndcaabnboaaDoorDigN
namespace Go.Proofs.YtaogndcaabnboaaDoor.digestReads
open Go.ChangeShapes Go.WideShapes Go.ChangeAt Go.RowKit
open Go.ChangeMaps (open_string shut_string)
set_option linter.unusedVariables false

set_option maxRecDepth 100000 in
set_option maxHeartbeats 1000000 in
theorem walk_great (a0 : ByteArray) (w : World) (ht : Tabs w) (h : 80 < a0.size) :
    Calls Tryd.prog 8 #[.string a0] w fun e w' => e = .returned (.bool true) ∧ Below w.heap.size w w' := by
  have HT := Lib.hid ht
  clear ht
  go_enter Tryd.func8, Tryd.ntmps8
  go_wp2_with fail
  refine (awake_any _ HT.out).mono ?_
  rintro e w1 ⟨rfl, hb⟩
  go_wp2
  go_ret
  exact ⟨rfl, hb⟩
set_option maxRecDepth 100000 in
set_option maxHeartbeats 1000000 in
theorem walk_bad (a0 : ByteArray) (w : World) (ht : Tabs w) (h : a0.size ≤ 80) (hp : prd a0.data.toList = ([0, 0, 0, 0], 3)) :
    Calls Tryd.prog 8 #[.string a0] w fun e w' => e = .returned (.bool true) ∧ Below w.heap.size w w' := by
  have c1 := fun w ht => parse_code a0 w ht
  have c2 := fun w => dparse_ref a0 w (by omega)
  rw [hp] at c1 c2
  have c1 := fun w ht => show Calls Tryd.prog 21 #[.string a0] w (fun e w' => e = .returned (.tuple #[ag [0, 0, 0, 0], .int .i64 3]) ∧ Below w.heap.size w w') from c1 w ht
  have c2 := fun w => show Calls Tryd.prog 23 #[.string a0] w (fun e w' => e = .returned (.tuple #[ag [0, 0, 0, 0], .int .i64 3]) ∧ Below w.heap.size w w') from c2 w
  simp only [ag4] at c1 c2
  have C1 := Lib.hid c1
  have C2 := Lib.hid c2
  have HT := Lib.hid ht
  have HK := Lib.hid (Kl.nil w)
  have q4 := eq4s
  have s0 := same_self
  clear c1 c2 ht hp
  go_enter Tryd.func8, Tryd.ntmps8
  go_wp2_with fail
  refine (C1.out _ HT.out).mono ?_
  rintro e w1 ⟨rfl, hb⟩
  replace HK := Lib.hid ((HK.out.after hb).more (.cells #[.int .u32 0, .int .u32 0, .int .u32 0, .int .u32 0] 29 (0, 0)))
  clear hb
  go_wp2_with fail
  refine (C2.out _).mono ?_
  rintro e w2 ⟨rfl, hb⟩
  replace HK := Lib.hid (HK.out.after hb)
  have l1 : w1.heap.size < w2.heap.size := HK.out.lt 0 rfl
  obtain ⟨d0, d1, d2, d3, _⟩ := cells4 (HK.out.at 0 rfl)
  replace HK := Lib.hid (HK.out.more (.cells #[.int .u32 0, .int .u32 0, .int .u32 0, .int .u32 0] 29 (0, 0)))
  clear hb
  go_wp2_with fail
  refine (awake_any _ (HT.out.below HK.out.be)).mono ?_
  rintro e w3 ⟨rfl, hb⟩
  have hbe := (HK.out.after hb).be
  go_wp2
  go_ret
  exact ⟨rfl, hbe⟩
set_option maxRecDepth 100000 in
set_option maxHeartbeats 2000000 in
theorem walk_good (a0 : ByteArray) (w : World) (ht : Tabs w) (h : a0.size = 32) (h2 : nd a0.data.toList = 32) :
    Calls Tryd.prog 8 #[.string a0] w fun e w' => e = .returned (.bool true) ∧ Below w.heap.size w w' := by
  have hl : a0.data.toList.length = 32 := by rw [list_size]; exact h
  have hp := prd_ok hl h2
  have c1 := fun w ht => parse_code a0 w ht
  have c2 := fun w => dparse_ref a0 w (by omega)
  rw [hp] at c1 c2
  have hrd := dtx_read h h2
  obtain ⟨v0, v1, v2, v3, hv, hok⟩ := words4 hl h2
  have hr := rv_ok4 hok
  rw [← hv] at hr
  obtain ⟨x0, x1, x2, x3, hx, _⟩ := ok4 hr
  rw [hx] at c1 c2 hrd hr
  have c3 := fun w ht => text_code _ w hr ht
  have hsz := size_dtx hr
  obtain ⟨T, hT⟩ : ∃ T, dtx [x0, x1, x2, x3] = T := ⟨_, rfl⟩
  rw [hT] at c3 hrd hsz
  have c1 := fun w ht => show Calls Tryd.prog 21 #[.string a0] w (fun e w' => e = .returned (.tuple #[ag [x0, x1, x2, x3], .int .i64 0]) ∧ Below w.heap.size w w') from c1 w ht
  have c2 := fun w => show Calls Tryd.prog 23 #[.string a0] w (fun e w' => e = .returned (.tuple #[ag [x0, x1, x2, x3], .int .i64 0]) ∧ Below w.heap.size w w') from c2 w
  simp only [ag4] at c1 c2 c3
  have C1 := Lib.hid c1
  have C2 := Lib.hid c2
  have C3 := Lib.hid c3
  have HRD := Lib.hid hrd
  have HT := Lib.hid ht
  have HK := Lib.hid (Kl.nil w)
  have q4 := eq4s
  have s0 := same_self
  have hiA : (a0.size : Int) = 32 := by omega
  have hiT : (T.size : Int) = 32 := by omega
  clear c1 c2 c3 ht hp hrd hv hok hr hx hT hl h2
  go_enter Tryd.func8, Tryd.ntmps8
  go_wp2_with fail
  refine (C1.out _ HT.out).mono ?_
  rintro e w1 ⟨rfl, hb⟩
  replace HK := Lib.hid ((HK.out.after hb).more (.cells #[.int .u32 x0, .int .u32 x1, .int .u32 x2, .int .u32 x3] 29 (0, 0)))
  clear hb
  go_wp2_with fail
  refine (C2.out _).mono ?_
  rintro e w2 ⟨rfl, hb⟩
  replace HK := Lib.hid (HK.out.after hb)
  have l1 : w1.heap.size < w2.heap.size := HK.out.lt 0 rfl
  obtain ⟨d0, d1, d2, d3, _⟩ := cells4 (HK.out.at 0 rfl)
  replace HK := Lib.hid (HK.out.more (.cells #[.int .u32 x0, .int .u32 x1, .int .u32 x2, .int .u32 x3] 29 (0, 0)))
  clear hb
  go_wp2_with fail
  refine (C3.out _ (HT.out.below HK.out.be)).mono ?_
  rintro e w3 ⟨rfl, hb⟩
  replace HK := Lib.hid (HK.out.after hb)
  clear hb d0 d1 d2 d3 l1
  go_wp2_with fail
  go_loop [8, 9] (fun si sc => ∃ k : Nat, k ≤ 32 ∧ si = .int .i64 k) (fun si _ => 32 - (intOf si).toNat)
  case atStart => exact ⟨0, by omega, rfl⟩
  case round =>
    obtain ⟨k, hk, rfl⟩ := hrel
    by_cases hlt : k < 32
    · have hks : k < a0.size := by omega
      have hkt : k < T.size := by omega
      have hi0 : (0 : Int) ≤ (k : Int) := by omega
      have hi1 : (k : Int) < 32 := by omega
      have he : T[k] = low a0[k] := by
        have e1 : T.data.toList[k]? = (a0.data.toList.map low)[k]? := by rw [HRD.out]
        have k1 : k < T.data.toList.length := by rw [list_size]; exact hkt
        have k2 : k < a0.data.toList.length := by rw [list_size]; exact hks
        rw [List.getElem?_map, List.getElem?_eq_getElem k1, List.getElem?_eq_getElem k2] at e1
        exact Option.some.inj e1
      obtain ⟨c, hc⟩ : ∃ c : UInt8, a0[k] = c := ⟨_, rfl⟩
      rw [hc] at he
      have hc8 := c.toNat_lt
      by_cases hu : 65 ≤ c.toNat ∧ c.toNat ≤ 70
      · have hlo : (T[k].toNat : Int) = (c.toNat : Int) + 32 := by
          rw [he]; unfold low
          rw [if_pos hu]
          have : (c + 32).toNat = c.toNat + 32 := by rw [UInt8.toNat_add]; have := hu.2; simp; omega
          rw [this]; omega
        obtain ⟨u1, u2⟩ := hu
        have hcI : (a0[k].toNat : Int) = (c.toNat : Int) := by rw [hc]
        clear he hc
        go_wp2_with fail
        go_round
        case rel => exact ⟨k + 1, by omega, by go_num⟩
        case measure => simp [intOf]; omega
      · have hlo : (T[k].toNat : Int) = (c.toNat : Int) := by
          rw [he]; unfold low
          rw [if_neg hu]
        have hcI : (a0[k].toNat : Int) = (c.toNat : Int) := by rw [hc]
        have hu2 : c.toNat < 65 ∨ 70 < c.toNat := by omega
        clear he hc hu
        rcases hu2 with hu2 | hu2
        all_goals
          go_wp2_with fail
          go_round
          case rel => exact ⟨k + 1, by omega, by go_num⟩
          case measure => simp [intOf]; omega
    · obtain rfl : k = 32 := by omega
      go_wp2_with fail
      refine (awake_any _ (HT.out.below HK.out.be)).mono ?_
      rintro e w4 ⟨rfl, hb⟩
      have hbe := (HK.out.after hb).be
      go_wp2
      go_ret
      exact ⟨rfl, hbe⟩
theorem walk (a0 : ByteArray) (w : World) (ht : Tabs w) :
    Calls Tryd.prog 8 #[.string a0] w fun e w' => e = .returned (.bool true) ∧ Below w.heap.size w w' := by
  by_cases h : 80 < a0.size
  · exact walk_great a0 w ht h
  · by_cases h1 : a0.size = 32 ∧ nd a0.data.toList = 32
    · exact walk_good a0 w ht h1.1 h1.2
    · exact walk_bad a0 w ht (by omega) (prd_bad (by rw [list_size]; omega))

theorem contract (H : Type) (enc : TypeId × Value → H) (W : World) (base : Nat) (args : Array Value) (ds gs : List (DataW H)) (before : List MemPlace)
    (hval : ∀ (j : Nat) t v, Tryd.f8.params[j]? = some t → args[j]? = some v → Value.okWide Tryd.prog W .any base t v)
    (hW : DataW.Whole enc Tryd.prog Tryd.f8.params.toList Rows.digestReadsSpec.vars false W args.toList ds gs before) (hL : laidMetH Tryd.prog Rows.digestReadsRow.laid W) :
    Calls Tryd.prog 8 args W fun e W' => ∃ v, e = .returned v ∧ Rows.digestReadsSpec.post enc Tryd.prog Tryd.f8 false true false false W args v W' := by
  have hW' := hW
  obtain ⟨p, q, hA0, hV, rfl, hfz, hnd⟩ := hW
  have hA : DataW.TrodAll enc Tryd.prog W 0 (fun _ => true) true Tryd.f8.params.toList args.toList ds p := hA0
  rw [Tryd.params8] at hA hval
  obtain ⟨v0, vs0, d0, ds0, p0, q0, hargs, rfl, rfl, h0, r0⟩ := trodAll_cons hA
  obtain ⟨rfl, rfl, rfl⟩ := trodAll_nil r0
  obtain rfl : args = #[v0] := by cases args; simp_all
  obtain ⟨rfl, rfl⟩ := trodVars_none hV
  obtain ⟨a0, rfl, rfl, rfl, w0⟩ := open_string Tryd.underlying9 (hval 0 9 v0 rfl rfl) h0
  clear hA0
  simp only [List.append_nil] at hW'
  refine (walk a0 W (tabs_of (l := Rows.digestReadsRow.laid) hL (by first | exact .head _ | exact .tail _ (.head _) | exact .tail _ (.tail _ (.head _))) (by first | exact .head _ | exact .tail _ (.head _) | exact .tail _ (.tail _ (.head _))) (by first | exact .head _ | exact .tail _ (.head _) | exact .tail _ (.tail _ (.head _))))).mono fun e W' ⟨he, hg⟩ => ?_
  subst he
  exact ⟨_, rfl, _, _, _, [], [], [], hW', trodAll_mk1 (shut_bool Tryd.underlying4 _), (trodAll_cons_mk (shut_string Tryd.underlying9 w0) trodAll_mk0), rfl, hg.frame _, fun h => by cases h⟩

theorem laid_met (os : Os) : laidMet Tryd.prog Rows.digestReadsRow.laid ((laidWorld os).forCall (fun _ _ => 0) ⟨#[], #[.string ByteArray.empty], []⟩).memory :=
  laidMet_of_run' 8 (by kernel_rfl) (by kernel_rfl)
theorem reads (os : Os) {H : Type} (enc : TypeId × Value → H) : ∃ places, DataW.whole enc Tryd.prog ((laidWorld os).forCall (fun _ _ => 0) ⟨#[], #[.string ByteArray.empty], []⟩).memory Tryd.f8.params.toList Rows.digestReadsSpec.vars false (#[.string ByteArray.empty] : Array Value).toList 8 = some ([.lit (.string [])], [], places) :=
  ⟨[], by kernel_rfl⟩

set_option maxRecDepth 100000 in
theorem lifted (os : Os) (started : os.Started) (H : Type) (enc : TypeId × Value → H) (F : Stop.Interp) :
    ReturnsInHanded {} Tryd.checked os 8 .any ((OpenSpec.ofChange Rows.digestReadsSpec).preRow enc Tryd.prog Tryd.f8 Rows.digestReadsRow.domain false Rows.digestReadsRow.laid) (((OpenSpec.ofChange Rows.digestReadsSpec).at F).post enc Tryd.prog Tryd.f8 false true false false) := by
  obtain ⟨places, hx⟩ := reads os enc
  refine returnsInHanded_of_row (C := Tryd.checked) (s := OpenSpec.ofChange Rows.digestReadsSpec) own started (by kernel_rfl) Tryd.func8
    (witness_row_at (enc := enc) (C := Tryd.checked) false (laidWorld os) #[.string ByteArray.empty] rfl (by kernel_rfl) (by kernel_rfl) (by kernel_rfl)
      (OpenSpec.preRow_of_cond 8 hx (by kernel_rfl) (fun k hk => by cases hk) (by kernel_rfl) (laid_met os))) ?_
  intro W base args ds gs before hval hW _ _ _ hL _ _
  exact contract H enc W base args ds gs before hval hW hL

theorem said : Rows.DigestReadsSaid :=
  OpenClaim.holds_of_cond 8 Tryd.f8 rfl rfl rfl rfl rfl rfl rfl ⟨rfl, rfl, rfl, rfl, rfl⟩ rfl rfl rfl rfl rfl (by kernel_rfl) Tryd.func8 (by kernel_rfl)
    (of_decide_eq_true (by kernel_rfl)) (by unfold Func.isWrapper; first | (rw [if_pos (by decide +kernel)]; kernel_rfl) | (rw [if_neg (by decide +kernel)]; exact ⟨rfl, rfl⟩))
    (fun os started H enc _ F => by rw [OpenClaim.pre_eq_preRow]; exact lifted os started H enc F)

theorem plain (f : FuncId) (fn : Func) (hf : Tryd.pinned.checked.prog.funcNamed "seedcorn/seedcornlaw03.DigestReads" = some f) (hfn : Tryd.pinned.checked.prog.funcs[f]? = some fn) :
    false = Tryd.pinned.checked.prog.looks [] ∧ ∀ (j : Nat) t, fn.params[j]? = some t → Tryd.pinned.checked.prog.wantsStandIn t = false := by
  obtain rfl : f = 8 := Option.some.inj ((show Tryd.prog.funcNamed "seedcorn/seedcornlaw03.DigestReads" = some 8 by kernel_rfl).symm.trans hf) |>.symm
  obtain rfl : fn = Tryd.f8 := (Option.some.inj (Tryd.func8.symm.trans hfn)).symm
  refine ⟨by kernel_rfl, fun j t ht => ?_⟩
  rw [Tryd.params8] at ht
  have hm := Array.mem_of_getElem? ht
  obtain rfl : t = 9 := by simpa using hm
  exact (show Tryd.prog.wantsStandIn 9 = false by kernel_rfl)

/-- The card. -/
theorem card : Rows.DigestReadsCardSaid :=
  Claim7.holds_tied_plain_at .later [] _ _ _ _ said (fun _ h => by cases h) (by kernel_rfl) (fun _ h => by cases h) digestReads_row_tie rfl ⟨rfl, rfl⟩ (by kernel_rfl) rfl plain (by kernel_rfl)
end Go.Proofs.YtaogndcaabnboaaDoor.digestReads
