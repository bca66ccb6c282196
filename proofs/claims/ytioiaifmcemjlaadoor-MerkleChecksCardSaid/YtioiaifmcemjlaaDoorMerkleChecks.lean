/- The law MerkleChecks: for every root, leaf, number, place and slice of digests it returns true, and all reads as before. The table that it reads holds what the program's text lays (the card ties it). No other condition. -/
import Derived.Test.YtioiaifmcemjlaaDoorMerW
import Derived.Test.YtioiaifmcemjlaaDoorMerP
import Derived.Test.YtioiaifmcemjlaaDoorMerR
namespace Go.Proofs.YtioiaifmcemjlaaDoor.merkleChecks
open Go.ChangeShapes Go.WideShapes Go.ChangeAt Go.RowKit
set_option linter.unusedVariables false

theorem all11 {w W : World} {b : Nat} {bs : List (Nat × Obj)} {r0 r1 r2 r3 f0 f1 f2 f3 N I : Int} {A : Option Addr} {n cap : Nat} (h : Kx none w W ((b, .cells #[.int .u32 r0, .int .u32 r1, .int .u32 r2, .int .u32 r3, .int .u32 f0, .int .u32 f1, .int .u32 f2, .int .u32 f3, .int .i64 N, .int .i64 I, .slice A n cap] 41 (0, 0)) :: bs)) : W.cell? ⟨b, 0, none⟩ = some (.int .u32 r0) ∧ W.cell? ⟨b, 1, none⟩ = some (.int .u32 r1) ∧ W.cell? ⟨b, 2, none⟩ = some (.int .u32 r2) ∧ W.cell? ⟨b, 3, none⟩ = some (.int .u32 r3) ∧ W.cell? ⟨b, 4, none⟩ = some (.int .u32 f0) ∧ W.cell? ⟨b, 5, none⟩ = some (.int .u32 f1) ∧ W.cell? ⟨b, 6, none⟩ = some (.int .u32 f2) ∧ W.cell? ⟨b, 7, none⟩ = some (.int .u32 f3) ∧ W.cell? ⟨b, 8, none⟩ = some (.int .i64 N) ∧ W.cell? ⟨b, 9, none⟩ = some (.int .i64 I) ∧ W.cell? ⟨b, 10, none⟩ = some (.slice A n cap) := by
  have := h.at 0 rfl
  simp [World.cell?, this]
theorem both {r0 r1 r2 r3 f0 f1 f2 f3 : Int} {A : Option Addr} {n cap : Nat} {l : Dl} (oR : Ok4 [r0, r1, r2, r3]) (oF : Ok4 [f0, f1, f2, f3]) (N I : Int) (hl : l.length = n) (hn : n ≤ 30) (hc : n ≤ cap) (hm : cap ≤ 9223372036854775807) (hol : Oks l) :
    ∃ res, (∀ w, Dd w A l → Tabs w → Calls Tryd.prog 20 #[.agg #[.int .u32 r0, .int .u32 r1, .int .u32 r2, .int .u32 r3], .int .i64 N, .int .i64 I, .agg #[.int .u32 f0, .int .u32 f1, .int .u32 f2, .int .u32 f3], .slice A n cap] w fun e w' => e = .returned (.bool res) ∧ Below w.heap.size w w') ∧ (∀ w, Dd w A l → Calls Tryd.prog 21 #[.agg #[.int .u32 r0, .int .u32 r1, .int .u32 r2, .int .u32 r3], .int .i64 N, .int .i64 I, .agg #[.int .u32 f0, .int .u32 f1, .int .u32 f2, .int .u32 f3], .slice A n cap] w fun e w' => e = .returned (.bool res) ∧ Below w.heap.size w w') := by
  by_cases hg : 1000 < N ∨ I < 0 ∨ N ≤ I
  · exact ⟨false, fun w _ _ => check_no A n cap w hg, fun w _ => checkr_no A n cap w hg⟩
  · obtain ⟨i, rfl⟩ := Int.eq_ofNat_of_zero_le (show 0 ≤ I by omega)
    obtain ⟨k, rfl⟩ := Int.eq_ofNat_of_zero_le (show 0 ≤ N by omega)
    refine ⟨chk [r0, r1, r2, r3] k i [f0, f1, f2, f3] l, fun w d t => check_yes w (by omega) (by omega) hl (by omega) hc hm oF d t, fun w d => ?_⟩
    by_cases h20 : 20 < n
    · rw [chk_long _ _ _ _ _ (by omega) (by omega)]
      exact checkr_long w (by omega) (by omega) h20 (by omega)
    · rw [chk_same]
      exact checkr_yes w (by omega) (by omega) hl (by omega) hc hm oF d
set_option maxRecDepth 100000 in
set_option maxHeartbeats 4000000 in
theorem walk {r0 r1 r2 r3 f0 f1 f2 f3 N I : Int} {A : Option Addr} {n cap : Nat} {l : Dl} (oR : Ok4 [r0, r1, r2, r3]) (oF : Ok4 [f0, f1, f2, f3]) (wN : (Lit.int .i64 N).wf = true) (wI : (Lit.int .i64 I).wf = true) (hl : l.length = n) (hc : n ≤ cap) (hm : cap ≤ maxLen) (w : World) (hd : Dd w A l) (ht : Tabs w) :
    Calls Tryd.prog 5 #[.agg #[.int .u32 r0, .int .u32 r1, .int .u32 r2, .int .u32 r3, .int .u32 f0, .int .u32 f1, .int .u32 f2, .int .u32 f3, .int .i64 N, .int .i64 I, .slice A n cap]] w fun e w' => e = .returned (.bool true) ∧ Below w.heap.size w w' := by
  unfold maxLen at hm
  have HT := Lib.hid ht
  have HD := Lib.hid hd
  have HK := Lib.hid ((Kx.nil none w).add _ rfl (.cells #[.int .u32 r0, .int .u32 r1, .int .u32 r2, .int .u32 r3, .int .u32 f0, .int .u32 f1, .int .u32 f2, .int .u32 f3, .int .i64 N, .int .i64 I, .slice A n cap] 41 (0, 0)))
  by_cases h : 30 < n
  · have i0 : (30 : Int) < (n : Int) := by omega
    clear ht hd
    go_enter Tryd.func5, Tryd.ntmps5
    go_wp2_with fail
    refine (alive_any _ (HT.out.oldn HK.out)).mono ?_
    rintro e w1 ⟨rfl, hb⟩
    replace HK := Lib.hid (HK.out.after hb)
    clear hb
    obtain ⟨a0, a1, a2, a3, a4, a5, a6, a7, a8, a9, a10⟩ := all11 HK.out
    go_wp2_with fail
    go_ret
    exact ⟨rfl, HK.out.be.plain⟩
  · have i0 : ¬ (30 : Int) < (n : Int) := by omega
    obtain ⟨res, c1, c2⟩ := both (A := A) oR oF N I hl (by omega) hc (by omega) hd.1
    have C1 := Lib.hid c1
    have C2 := Lib.hid c2
    clear ht hd c1 c2
    go_enter Tryd.func5, Tryd.ntmps5
    go_wp2_with fail
    refine (alive_any _ (HT.out.oldn HK.out)).mono ?_
    rintro e w1 ⟨rfl, hb⟩
    replace HK := Lib.hid (HK.out.after hb)
    clear hb
    obtain ⟨a0, a1, a2, a3, a4, a5, a6, a7, a8, a9, a10⟩ := all11 HK.out
    go_wp2_with fail
    replace HK := Lib.hid HK.out.drew
    go_region_held3 (fun W => W.cell? ⟨w.heap.size, 0, none⟩ = some (.int .u32 r0) ∧ W.cell? ⟨w.heap.size, 1, none⟩ = some (.int .u32 r1) ∧ W.cell? ⟨w.heap.size, 2, none⟩ = some (.int .u32 r2) ∧ W.cell? ⟨w.heap.size, 3, none⟩ = some (.int .u32 r3) ∧ W.cell? ⟨w.heap.size, 4, none⟩ = some (.int .u32 f0) ∧ W.cell? ⟨w.heap.size, 5, none⟩ = some (.int .u32 f1) ∧ W.cell? ⟨w.heap.size, 6, none⟩ = some (.int .u32 f2) ∧ W.cell? ⟨w.heap.size, 7, none⟩ = some (.int .u32 f3) ∧ W.cell? ⟨w.heap.size, 8, none⟩ = some (.int .i64 N) ∧ W.cell? ⟨w.heap.size, 9, none⟩ = some (.int .i64 I) ∧ W.cell? ⟨w.heap.size, 10, none⟩ = some (.slice A n cap))
      (with_reducible exact all11 HK.out)
      (first
        | (go_at_call 20; (with_reducible refine (C1.out _ (HD.out.kept HK.out.be.plain) (HT.out.oldn HK.out)).mono ?_); rintro e w' ⟨rfl, hb⟩; replace HK := Lib.hid (HK.out.after hb); clear hb)
        | (go_at_call 21; (with_reducible refine (C2.out _ (HD.out.kept HK.out.be.plain)).mono ?_); rintro e w' ⟨rfl, hb⟩; replace HK := Lib.hid (HK.out.after hb); clear hb))
    all_goals
      go_wp2_with fail
      go_ret
      exact ⟨by simp, HK.out.be.plain⟩

set_option maxRecDepth 100000 in
theorem contract (H : Type) (enc : TypeId × Value → H) (W : World) (base : Nat) (args : Array Value) (ds gs : List (DataW H)) (before : List MemPlace)
    (hval : ∀ (j : Nat) t v, Tryd.f5.params[j]? = some t → args[j]? = some v → Value.okWide Tryd.prog W .any base t v)
    (hW : DataW.Whole enc Tryd.prog Tryd.f5.params.toList Rows.merkleChecksSpec.vars false W args.toList ds gs before) (hL : laidMetH Tryd.prog Rows.merkleChecksRow.laid W) :
    Calls Tryd.prog 5 args W fun e W' => ∃ v, e = .returned v ∧ Rows.merkleChecksSpec.post enc Tryd.prog Tryd.f5 false true false false W args v W' := by
  have hW' := hW
  obtain ⟨p, q, hA0, hV, rfl, hfz, hnd⟩ := hW
  have hA : DataW.TrodAll enc Tryd.prog W 0 (fun _ => true) true Tryd.f5.params.toList args.toList ds p := hA0
  rw [Tryd.params5] at hA hval
  obtain ⟨v0, vs0, d0, ds0, p0, q0, hargs, rfl, rfl, h0, r0⟩ := trodAll_cons hA
  obtain ⟨rfl, rfl, rfl⟩ := trodAll_nil r0
  obtain rfl : args = #[v0] := by cases args; simp_all
  obtain ⟨rfl, rfl⟩ := trodVars_none hV
  have lt0 : ∀ x ∈ p0, x.block < W.heap.size := by obtain ⟨m, hm⟩ := h0; exact DataW.trod_lt m _ _ _ hm
  obtain ⟨r0, r1, r2, r3, f0, f1, f2, f3, N, I, A, n, cap, l, rfl, oR, oF, wN, wI, hl, hc, hm, hd⟩ := open_place (hval 0 41 v0 rfl rfl) h0
  clear hA0
  refine (walk oR oF wN wI hl hc hm W hd (tabs_of hL)).mono fun e W' ⟨he, bel⟩ => ?_
  subst he
  exact ⟨_, rfl, _, _, _, [], _, [], hW', trodAll_mk1 (shut_bool Tryd.underlying4 _), (trodAll_cons_mk (Below.trod laidOut (by kernel_rfl) (of_decide_eq_true (by kernel_rfl)) h0 bel lt0) trodAll_mk0), rfl, bel.frame _, fun h => by cases h⟩

theorem laid_met (os : Os) : laidMet Tryd.prog Rows.merkleChecksRow.laid ((laidWorld os).forCall (fun _ _ => 0) ⟨#[], #[.agg #[.int .u32 0, .int .u32 0, .int .u32 0, .int .u32 0, .int .u32 0, .int .u32 0, .int .u32 0, .int .u32 0, .int .i64 0, .int .i64 0, .slice none 0 0]], []⟩).memory :=
  laidMet_of_run' 8 (by kernel_rfl) (by kernel_rfl)
theorem reads (os : Os) {H : Type} (enc : TypeId × Value → H) : ∃ places, DataW.whole enc Tryd.prog ((laidWorld os).forCall (fun _ _ => 0) ⟨#[], #[.agg #[.int .u32 0, .int .u32 0, .int .u32 0, .int .u32 0, .int .u32 0, .int .u32 0, .int .u32 0, .int .u32 0, .int .i64 0, .int .i64 0, .slice none 0 0]], []⟩).memory Tryd.f5.params.toList Rows.merkleChecksSpec.vars false (#[.agg #[.int .u32 0, .int .u32 0, .int .u32 0, .int .u32 0, .int .u32 0, .int .u32 0, .int .u32 0, .int .u32 0, .int .i64 0, .int .i64 0, .slice none 0 0]] : Array Value).toList 8 = some ([.agg [.agg [.lit (.int .u32 0), .lit (.int .u32 0), .lit (.int .u32 0), .lit (.int .u32 0)], .agg [.lit (.int .u32 0), .lit (.int .u32 0), .lit (.int .u32 0), .lit (.int .u32 0)], .lit (.int .i64 0), .lit (.int .i64 0), .nil]], [], places) :=
  ⟨[], by kernel_rfl⟩

set_option maxRecDepth 100000 in
theorem lifted (os : Os) (started : os.Started) (H : Type) (enc : TypeId × Value → H) (F : Stop.Interp) :
    ReturnsInHanded {} Tryd.checked os 5 .any ((OpenSpec.ofChange Rows.merkleChecksSpec).preRow enc Tryd.prog Tryd.f5 Rows.merkleChecksRow.domain false Rows.merkleChecksRow.laid) (((OpenSpec.ofChange Rows.merkleChecksSpec).at F).post enc Tryd.prog Tryd.f5 false true false false) := by
  obtain ⟨places, hx⟩ := reads os enc
  refine returnsInHanded_of_row (C := Tryd.checked) (s := OpenSpec.ofChange Rows.merkleChecksSpec) own started (by kernel_rfl) Tryd.func5
    (witness_row_at (enc := enc) (C := Tryd.checked) false (laidWorld os) #[.agg #[.int .u32 0, .int .u32 0, .int .u32 0, .int .u32 0, .int .u32 0, .int .u32 0, .int .u32 0, .int .u32 0, .int .i64 0, .int .i64 0, .slice none 0 0]] rfl (by kernel_rfl) (by kernel_rfl) (by kernel_rfl)
      (OpenSpec.preRow_of_cond 8 hx (by kernel_rfl) (fun k hk => by cases hk) (by kernel_rfl) (laid_met os))) ?_
  intro W base args ds gs before hval hW _ _ _ hL _ _
  exact contract H enc W base args ds gs before hval hW hL

theorem said : Rows.MerkleChecksSaid :=
  OpenClaim.holds_of_cond 5 Tryd.f5 rfl rfl rfl rfl rfl rfl rfl ⟨rfl, rfl, rfl, rfl, rfl⟩ rfl rfl rfl rfl rfl (by kernel_rfl) Tryd.func5 (by kernel_rfl)
    (of_decide_eq_true (by kernel_rfl)) (by unfold Func.isWrapper; first | (rw [if_pos (by decide +kernel)]; kernel_rfl) | (rw [if_neg (by decide +kernel)]; exact ⟨rfl, rfl⟩))
    (fun os started H enc _ F => by rw [OpenClaim.pre_eq_preRow]; exact lifted os started H enc F)

theorem plain (f : FuncId) (fn : Func) (hf : Tryd.pinned.checked.prog.funcNamed "seedcorn/seedcornlaw04.MerkleChecks" = some f) (hfn : Tryd.pinned.checked.prog.funcs[f]? = some fn) :
    false = Tryd.pinned.checked.prog.looks [] ∧ ∀ (j : Nat) t, fn.params[j]? = some t → Tryd.pinned.checked.prog.wantsStandIn t = false := by
  obtain rfl : f = 5 := Option.some.inj ((show Tryd.prog.funcNamed "seedcorn/seedcornlaw04.MerkleChecks" = some 5 by kernel_rfl).symm.trans hf) |>.symm
  obtain rfl : fn = Tryd.f5 := (Option.some.inj (Tryd.func5.symm.trans hfn)).symm
  refine ⟨by kernel_rfl, fun j t ht => ?_⟩
  rw [Tryd.params5] at ht
  have hm := Array.mem_of_getElem? ht
  have hm' : t = 41 := by simpa using hm
  rcases hm' with rfl
  · exact (show Tryd.prog.wantsStandIn 41 = false by kernel_rfl)

/-- The card. -/
theorem card : Rows.MerkleChecksCardSaid :=
  Claim7.holds_tied_plain_at .later [] _ _ _ _ said (fun _ h => by cases h) (by kernel_rfl) (fun _ h => by cases h) merkleChecks_row_tie rfl ⟨rfl, rfl⟩ (by kernel_rfl) rfl plain (by kernel_rfl)
end Go.Proofs.YtioiaifmcemjlaaDoor.merkleChecks
