/- The law OnetimeUnlike: for every two messages it returns true, and both read as before. The two tables that it reads hold what the program's text lays (the card ties them). No other condition. -/
import Derived.Test.YtnobnnbckehikaaDoorOneW
import Derived.Test.YtnobnnbckehikaaDoorOneQ
namespace Go.Proofs.YtnobnnbckehikaaDoor.onetimeUnlike
open Go.ChangeShapes Go.WideShapes Go.ChangeAt Go.RowKit
set_option linter.unusedVariables false

theorem all2 {w W : World} {n0 n1 : Nat} {x0 x1 x2 x3 y0 y1 y2 y3 : Int} (h : Kx none w W [(n0, .cells #[.int .u32 x0, .int .u32 x1, .int .u32 x2, .int .u32 x3] 24 (0, 0)), (n1, .cells #[.int .u32 y0, .int .u32 y1, .int .u32 y2, .int .u32 y3] 24 (0, 0))]) : W.cell? ⟨n0, 0, none⟩ = some (.int .u32 x0) ∧ W.cell? ⟨n0, 1, none⟩ = some (.int .u32 x1) ∧ W.cell? ⟨n0, 2, none⟩ = some (.int .u32 x2) ∧ W.cell? ⟨n0, 3, none⟩ = some (.int .u32 x3) ∧ W.cell? ⟨n1, 0, none⟩ = some (.int .u32 y0) ∧ W.cell? ⟨n1, 1, none⟩ = some (.int .u32 y1) ∧ W.cell? ⟨n1, 2, none⟩ = some (.int .u32 y2) ∧ W.cell? ⟨n1, 3, none⟩ = some (.int .u32 y3) := by
  obtain ⟨kx0, kx1, kx2, kx3, _⟩ := cells4 (h.at 0 rfl)
  obtain ⟨ky0, ky1, ky2, ky3, _⟩ := cells4 (h.at 1 rfl)
  exact ⟨kx0, kx1, kx2, kx3, ky0, ky1, ky2, ky3⟩
/-- Whether one of the first j numbers is less than the other list's. -/
def lsn (a b : List Nat) (j : Nat) : Bool := (List.range j).any fun i => decide (a.getD i 0 < b.getD i 0)
theorem lsn_succ (a b : List Nat) (j : Nat) : lsn a b (j + 1) = (lsn a b j || decide (a.getD j 0 < b.getD j 0)) := by simp [lsn, List.range_succ]
theorem lsn_self (a : List Nat) (j : Nat) : lsn a a j = false := by simp [lsn]
theorem lsn_all {m o : Ws} (hm : Ok4 m) (ho : Ok4 o) : lsn (nms m) (nms o) 35 = !(same m o) := by
  by_cases h : m = o
  · subst h
    rw [lsn_self, same_self]; rfl
  · rw [same_no h]
    obtain ⟨i, hi, hl⟩ := nms_ex hm ho h
    unfold lsn
    show _ = true
    rw [List.any_eq_true]
    exact ⟨i, by simpa using hi, by simpa using hl⟩
theorem same_comm (m o : Ws) : same m o = same o m := by
  by_cases h : m = o
  · rw [h]
  · rw [same_no h, same_no (fun e => h e.symm)]
theorem dec_cast (a b : Nat) : decide ((a : Int) < (b : Int)) = decide (a < b) := by
  by_cases h : a < b
  · rw [decide_eq_true h, decide_eq_true (by omega)]
  · rw [decide_eq_false h, decide_eq_false (by omega)]
theorem or_step {x : Bool} {a b : List Nat} {j d1 d2 : Nat} (h : lsn a b j = x) (h1 : a.getD j 0 = d1) (h2 : b.getD j 0 = d2) : lsn a b (j + 1) = (x || decide ((d1 : Int) < (d2 : Int))) := by
  rw [lsn_succ, h, h1, h2, dec_cast]
set_option maxRecDepth 100000 in
set_option maxHeartbeats 4000000 in
theorem walk {x0 x1 x2 x3 y0 y1 y2 y3 : Int} (o0 : Ok4 [x0, x1, x2, x3]) (o1 : Ok4 [y0, y1, y2, y3]) (w : World) (ht : Tabs w) :
    Calls Tryd.prog 7 #[ag [x0, x1, x2, x3], ag [y0, y1, y2, y3]] w fun e w' => e = .returned (.bool true) ∧ Below w.heap.size w w' := by
  have HN1 := Lib.hid (nms_get [x0, x1, x2, x3])
  have HNL1 := Lib.hid (nms_length o0)
  have HNL2 := Lib.hid (nms_length o1)
  have hl1 := lsn_all o0 o1
  have hl2 := lsn_all o1 o0
  rw [same_comm [y0, y1, y2, y3] [x0, x1, x2, x3]] at hl2
  have c1 := fun w => steps_codex _ w o0
  have c2 := fun w => steps_codex _ w o1
  rw [ag4] at c1 c2
  rw [ag4, ag4]
  have q4 := eq4s
  obtain ⟨A, hA⟩ : ∃ A, nms [x0, x1, x2, x3] = A := ⟨_, rfl⟩
  obtain ⟨B, hB⟩ : ∃ B, nms [y0, y1, y2, y3] = B := ⟨_, rfl⟩
  rw [hA] at HN1 HNL1 hl1 hl2 c1
  rw [hB] at HNL2 hl1 hl2 c2
  have HL1 := Lib.hid hl1
  have HL2 := Lib.hid hl2
  have C1 := Lib.hid c1
  have C2 := Lib.hid c2
  have HT := Lib.hid ht
  have HK := Lib.hid (((Kx.nil none w).add (w.heap.size) (by simp) (.cells #[.int .u32 x0, .int .u32 x1, .int .u32 x2, .int .u32 x3] 24 (0, 0))).add (w.heap.size + 1) (by simp) (.cells #[.int .u32 y0, .int .u32 y1, .int .u32 y2, .int .u32 y3] 24 (0, 0))).drew
  clear c1 c2 ht hl1 hl2 hA hB
  go_enter Tryd.func7, Tryd.ntmps7
  go_wp2_with fail
  go_region_held3 (fun W => W.cell? ⟨w.heap.size, 0, none⟩ = some (.int .u32 x0) ∧ W.cell? ⟨w.heap.size, 1, none⟩ = some (.int .u32 x1) ∧ W.cell? ⟨w.heap.size, 2, none⟩ = some (.int .u32 x2) ∧ W.cell? ⟨w.heap.size, 3, none⟩ = some (.int .u32 x3) ∧ W.cell? ⟨w.heap.size + 1, 0, none⟩ = some (.int .u32 y0) ∧ W.cell? ⟨w.heap.size + 1, 1, none⟩ = some (.int .u32 y1) ∧ W.cell? ⟨w.heap.size + 1, 2, none⟩ = some (.int .u32 y2) ∧ W.cell? ⟨w.heap.size + 1, 3, none⟩ = some (.int .u32 y3))
    (with_reducible exact all2 HK.out)
    (first
      | (go_at_call 12; with_reducible refine (C1.out _).mono ?_; rintro e w' ⟨g1, c1, rfl, _, _, hir, _, hb⟩; have HI1 := Lib.hid hir; clear hir; replace HK := Lib.hid (HK.out.after hb); clear hb)
      | (go_at_call 12; with_reducible refine (C2.out _).mono ?_; rintro e w' ⟨g2, c2, rfl, _, _, hir, _, hb⟩; have HI2 := Lib.hid hir; clear hir; replace HK := Lib.hid (HK.out.after hb); replace HI1 := Lib.hid (HI1.out.kept hb); clear hb))
  go_wp2_with fail
  go_loopw [7, 8, 9] (fun s7 s8 v wr => ∃ j : Nat, j ≤ 35 ∧ v = .int .i64 (j : Int) ∧ s7 = .bool (lsn A B j) ∧ s8 = .bool (lsn B A j) ∧ Hid (Kx none w wr [(w.heap.size, .cells #[.int .u32 x0, .int .u32 x1, .int .u32 x2, .int .u32 x3] 24 (0, 0)), (w.heap.size + 1, .cells #[.int .u32 y0, .int .u32 y1, .int .u32 y2, .int .u32 y3] 24 (0, 0))]) ∧ Hid (IRow wr g1 A) ∧ Hid (IRow wr g2 B)) (fun _ _ v _ => 35 - (intOf v).toNat)
  case atStart => exact ⟨0, Nat.zero_le _, rfl, rfl, rfl, HK, HI1, HI2⟩
  case round =>
    obtain ⟨j, hj, rfl, rfl, rfl, HK, HI1, HI2⟩ := hrel
    by_cases hlt : j < 35
    · have i0 : (0 : Int) ≤ (j : Int) := by omega
      have i1 : (j : Int) < 35 := by omega
      have hd1 := HN1.out j
      have hc1 := HI1.out.at_ j (by rw [HNL1.out]; exact hlt)
      have hc2 := HI2.out.at_ j (by rw [HNL2.out]; exact hlt)
      obtain ⟨d1, ed1⟩ : ∃ d, A.getD j 0 = d := ⟨_, rfl⟩
      obtain ⟨d2, ed2⟩ : ∃ d, B.getD j 0 = d := ⟨_, rfl⟩
      rw [ed1] at hd1 hc1
      rw [ed2] at hc2
      obtain ⟨u, eu⟩ : ∃ u, lsn A B j = u := ⟨_, rfl⟩
      obtain ⟨v, ev⟩ : ∃ v, lsn B A j = v := ⟨_, rfl⟩
      have HU := Lib.hid (or_step eu ed1 ed2)
      have HV := Lib.hid (or_step ev ed2 ed1)
      rw [eu, ev]
      have j0 : (0 : Int) ≤ (d1 : Int) := by omega
      have j1 : (d1 : Int) ≤ 15 := by omega
      clear ed1 ed2 eu ev
      cases u <;> cases v
      all_goals
        go_wp2_with fail
        go_quiet (fail)
        go_wp2_with fail
        go_quiet (fail)
        go_wp2_with fail
        go_roundw
        case rel => exact ⟨j + 1, by omega, by go_num, by rw [HU.out]; simp, by rw [HV.out]; simp, Lib.hid (HK.out.drewN _), Lib.hid (HI1.out.drewN _), Lib.hid (HI2.out.drewN _)⟩
        case measure => simp [intOf]; omega
    · obtain rfl : j = 35 := by omega
      rw [HL1.out, HL2.out]
      obtain ⟨bb, hbb⟩ : ∃ bb, same [x0, x1, x2, x3] [y0, y1, y2, y3] = bb := ⟨_, rfl⟩
      rw [hbb]
      go_wp2_with fail
      refine (awake_any _ (HT.out.oldn HK.out)).mono ?_
      rintro e w5 ⟨rfl, hb⟩
      replace HK := Lib.hid (HK.out.after hb)
      clear hb
      obtain ⟨m0, m1, m2, m3, _⟩ := cells4 (HK.out.at 0 rfl)
      obtain ⟨u0, u1, u2, u3, _⟩ := cells4 (HK.out.at 1 rfl)
      go_wp2_with fail
      go_ret
      exact ⟨by simp, HK.out.be.plain⟩

set_option maxRecDepth 100000 in
theorem contract (H : Type) (enc : TypeId × Value → H) (W : World) (base : Nat) (args : Array Value) (ds gs : List (DataW H)) (before : List MemPlace)
    (hval : ∀ (j : Nat) t v, Tryd.f7.params[j]? = some t → args[j]? = some v → Value.okWide Tryd.prog W .any base t v)
    (hW : DataW.Whole enc Tryd.prog Tryd.f7.params.toList Rows.onetimeUnlikeSpec.vars false W args.toList ds gs before) (hL : laidMetH Tryd.prog Rows.onetimeUnlikeRow.laid W) :
    Calls Tryd.prog 7 args W fun e W' => ∃ v, e = .returned v ∧ Rows.onetimeUnlikeSpec.post enc Tryd.prog Tryd.f7 false true false false W args v W' := by
  have hW' := hW
  obtain ⟨p, q, hA0, hV, rfl, hfz, hnd⟩ := hW
  have hA : DataW.TrodAll enc Tryd.prog W 0 (fun _ => true) true Tryd.f7.params.toList args.toList ds p := hA0
  rw [Tryd.params7] at hA hval
  obtain ⟨v0, vs0, d0, ds0, p0, q0, hargs, rfl, rfl, h0, r0⟩ := trodAll_cons hA
  obtain ⟨v1, vs1, d1, ds1, p1, q1, rfl, rfl, rfl, h1, r1⟩ := trodAll_cons r0
  obtain ⟨rfl, rfl, rfl⟩ := trodAll_nil r1
  obtain rfl : args = #[v0, v1] := by cases args; simp_all
  obtain ⟨rfl, rfl⟩ := trodVars_none hV
  have lt0 : ∀ x ∈ p0, x.block < W.heap.size := by obtain ⟨m, hm⟩ := h0; exact DataW.trod_lt m _ _ _ hm
  obtain ⟨x00, x01, x02, x03, rfl, o0⟩ := open_dig (hval 0 24 v0 rfl rfl) h0
  have lt1 : ∀ x ∈ p1, x.block < W.heap.size := by obtain ⟨m, hm⟩ := h1; exact DataW.trod_lt m _ _ _ hm
  obtain ⟨x10, x11, x12, x13, rfl, o1⟩ := open_dig (hval 1 24 v1 rfl rfl) h1
  clear hA0
  refine (walk o0 o1 W  (tabs_of hL)).mono fun e W' ⟨he, bel⟩ => ?_
  subst he
  exact ⟨_, rfl, _, _, _, [], _, [], hW', trodAll_mk1 (shut_bool Tryd.underlying4 _), (trodAll_cons_mk (Below.trod laidOut (by kernel_rfl) (of_decide_eq_true (by kernel_rfl)) h0 bel lt0) (trodAll_cons_mk (Below.trod laidOut (by kernel_rfl) (of_decide_eq_true (by kernel_rfl)) h1 bel lt1) trodAll_mk0)), rfl, bel.frame _, fun h => by cases h⟩

theorem laid_met (os : Os) : laidMet Tryd.prog Rows.onetimeUnlikeRow.laid ((laidWorld os).forCall (fun _ _ => 0) ⟨#[], #[.agg #[.int .u32 0, .int .u32 0, .int .u32 0, .int .u32 0], .agg #[.int .u32 0, .int .u32 0, .int .u32 0, .int .u32 0]], []⟩).memory :=
  laidMet_of_run' 8 (by kernel_rfl) (by kernel_rfl)
theorem reads (os : Os) {H : Type} (enc : TypeId × Value → H) : ∃ places, DataW.whole enc Tryd.prog ((laidWorld os).forCall (fun _ _ => 0) ⟨#[], #[.agg #[.int .u32 0, .int .u32 0, .int .u32 0, .int .u32 0], .agg #[.int .u32 0, .int .u32 0, .int .u32 0, .int .u32 0]], []⟩).memory Tryd.f7.params.toList Rows.onetimeUnlikeSpec.vars false (#[.agg #[.int .u32 0, .int .u32 0, .int .u32 0, .int .u32 0], .agg #[.int .u32 0, .int .u32 0, .int .u32 0, .int .u32 0]] : Array Value).toList 8 = some ([.agg [.lit (.int .u32 0), .lit (.int .u32 0), .lit (.int .u32 0), .lit (.int .u32 0)], .agg [.lit (.int .u32 0), .lit (.int .u32 0), .lit (.int .u32 0), .lit (.int .u32 0)]], [], places) :=
  ⟨[], by kernel_rfl⟩

set_option maxRecDepth 100000 in
theorem lifted (os : Os) (started : os.Started) (H : Type) (enc : TypeId × Value → H) (F : Stop.Interp) :
    ReturnsInHanded {} Tryd.checked os 7 .any ((OpenSpec.ofChange Rows.onetimeUnlikeSpec).preRow enc Tryd.prog Tryd.f7 Rows.onetimeUnlikeRow.domain false Rows.onetimeUnlikeRow.laid) (((OpenSpec.ofChange Rows.onetimeUnlikeSpec).at F).post enc Tryd.prog Tryd.f7 false true false false) := by
  obtain ⟨places, hx⟩ := reads os enc
  refine returnsInHanded_of_row (C := Tryd.checked) (s := OpenSpec.ofChange Rows.onetimeUnlikeSpec) own started (by kernel_rfl) Tryd.func7
    (witness_row_at (enc := enc) (C := Tryd.checked) false (laidWorld os) #[.agg #[.int .u32 0, .int .u32 0, .int .u32 0, .int .u32 0], .agg #[.int .u32 0, .int .u32 0, .int .u32 0, .int .u32 0]] rfl (by kernel_rfl) (by kernel_rfl) (by kernel_rfl)
      (OpenSpec.preRow_of_cond 8 hx (by kernel_rfl) (fun k hk => by cases hk) (by kernel_rfl) (laid_met os))) ?_
  intro W base args ds gs before hval hW _ _ _ hL _ _
  exact contract H enc W base args ds gs before hval hW hL

theorem said : Rows.OnetimeUnlikeSaid :=
  OpenClaim.holds_of_cond 7 Tryd.f7 rfl rfl rfl rfl rfl rfl rfl ⟨rfl, rfl, rfl, rfl, rfl⟩ rfl rfl rfl rfl rfl (by kernel_rfl) Tryd.func7 (by kernel_rfl)
    (of_decide_eq_true (by kernel_rfl)) (by unfold Func.isWrapper; first | (rw [if_pos (by decide +kernel)]; kernel_rfl) | (rw [if_neg (by decide +kernel)]; exact ⟨rfl, rfl⟩))
    (fun os started H enc _ F => by rw [OpenClaim.pre_eq_preRow]; exact lifted os started H enc F)

theorem plain (f : FuncId) (fn : Func) (hf : Tryd.pinned.checked.prog.funcNamed "seedcorn/seedcornlaw05.OnetimeUnlike" = some f) (hfn : Tryd.pinned.checked.prog.funcs[f]? = some fn) :
    false = Tryd.pinned.checked.prog.looks [] ∧ ∀ (j : Nat) t, fn.params[j]? = some t → Tryd.pinned.checked.prog.wantsStandIn t = false := by
  obtain rfl : f = 7 := Option.some.inj ((show Tryd.prog.funcNamed "seedcorn/seedcornlaw05.OnetimeUnlike" = some 7 by kernel_rfl).symm.trans hf) |>.symm
  obtain rfl : fn = Tryd.f7 := (Option.some.inj (Tryd.func7.symm.trans hfn)).symm
  refine ⟨by kernel_rfl, fun j t ht => ?_⟩
  rw [Tryd.params7] at ht
  have hm := Array.mem_of_getElem? ht
  have hm' : t = 24 := by simpa using hm
  rcases hm' with rfl
  · exact (show Tryd.prog.wantsStandIn 24 = false by kernel_rfl)

/-- The card. -/
theorem card : Rows.OnetimeUnlikeCardSaid :=
  Claim7.holds_tied_plain_at .later [] _ _ _ _ said (fun _ h => by cases h) (by kernel_rfl) (fun _ h => by cases h) onetimeUnlike_row_tie rfl ⟨rfl, rfl⟩ (by kernel_rfl) rfl plain (by kernel_rfl)
end Go.Proofs.YtnobnnbckehikaaDoor.onetimeUnlike
