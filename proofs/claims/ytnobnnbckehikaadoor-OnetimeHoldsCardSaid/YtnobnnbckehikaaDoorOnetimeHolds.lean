/- The law OnetimeHolds: for every seed and every message it returns true, and both read as before. The two tables that it reads hold what the program's text lays (the card ties them). No other condition. -/
import Derived.Test.YtnobnnbckehikaaDoorOneW
import Derived.Test.YtnobnnbckehikaaDoorOneQ
import Derived.Test.YtnobnnbckehikaaDoorOneCut
namespace Go.Proofs.YtnobnnbckehikaaDoor.onetimeHolds
open Go.ChangeShapes Go.WideShapes Go.ChangeAt Go.RowKit
set_option linter.unusedVariables false

theorem all2 {w W : World} {n0 n1 : Nat} {x0 x1 x2 x3 y0 y1 y2 y3 : Int} {r : List (Nat × Obj)} (h : Kx none w W ((n0, .cells #[.int .u32 x0, .int .u32 x1, .int .u32 x2, .int .u32 x3] 24 (0, 0)) :: (n1, .cells #[.int .u32 y0, .int .u32 y1, .int .u32 y2, .int .u32 y3] 24 (0, 0)) :: r)) : W.cell? ⟨n0, 0, none⟩ = some (.int .u32 x0) ∧ W.cell? ⟨n0, 1, none⟩ = some (.int .u32 x1) ∧ W.cell? ⟨n0, 2, none⟩ = some (.int .u32 x2) ∧ W.cell? ⟨n0, 3, none⟩ = some (.int .u32 x3) ∧ W.cell? ⟨n1, 0, none⟩ = some (.int .u32 y0) ∧ W.cell? ⟨n1, 1, none⟩ = some (.int .u32 y1) ∧ W.cell? ⟨n1, 2, none⟩ = some (.int .u32 y2) ∧ W.cell? ⟨n1, 3, none⟩ = some (.int .u32 y3) := by
  obtain ⟨kx0, kx1, kx2, kx3, _⟩ := cells4 (h.at 0 rfl)
  obtain ⟨ky0, ky1, ky2, ky3, _⟩ := cells4 (h.at 1 rfl)
  exact ⟨kx0, kx1, kx2, kx3, ky0, ky1, ky2, ky3⟩
theorem _root_.Go.Proofs.YtnobnnbckehikaaDoor.DRow.set4 {w : World} {b off : Nat} {l : Dl} (h : DRow w b off l) {q : Nat} (hq : q ≠ b) (o0 o1 o2 o3 : Nat) (v0 v1 v2 v3 : Value) : DRow ((((w.setCell ⟨q, o0, none⟩ v0).setCell ⟨q, o1, none⟩ v1).setCell ⟨q, o2, none⟩ v2).setCell ⟨q, o3, none⟩ v3) b off l :=
  (((h.set (p := ⟨q, o0, none⟩) hq v0).set (p := ⟨q, o1, none⟩) hq v1).set (p := ⟨q, o2, none⟩) hq v2).set (p := ⟨q, o3, none⟩) hq v3
theorem ne_new {n g : Nat} {W : World} (h : W.heap.size ≤ g) (hn : n < W.heap.size) : n ≠ g := by omega
set_option maxRecDepth 100000 in
set_option maxHeartbeats 4000000 in
theorem walk {x0 x1 x2 x3 y0 y1 y2 y3 : Int} (o0 : Ok4 [x0, x1, x2, x3]) (o1 : Ok4 [y0, y1, y2, y3]) (w : World) (ht : Tabs w) :
    Calls Tryd.prog 5 #[ag [x0, x1, x2, x3], ag [y0, y1, y2, y3]] w fun e w' => e = .returned (.bool true) ∧ Below w.heap.size w w' := by
  have o := pubk_ok o0
  have c1 := fun w ht => sign_codex _ _ w o0 o1 ht
  have c2 := fun w ht => public_code _ w o0 ht
  have hl := sgn_length [x0, x1, x2, x3] [y0, y1, y2, y3]
  have c3 := fun (b cap : Nat) w (hc : 35 ≤ cap) hr ht => reach_row (b := b) (off := 0) (cap := cap) (l := sgn [x0, x1, x2, x3] [y0, y1, y2, y3]) [y0, y1, y2, y3] w o1 hl hc hr ht
  have c4 := fun (b cap : Nat) w (hc : 35 ≤ cap) hr ht => check5_row (b := b) (off := 0) (cap := cap) (l := sgn [x0, x1, x2, x3] [y0, y1, y2, y3]) (pubk [x0, x1, x2, x3]) [y0, y1, y2, y3] w o o1 hl hc hr ht
  rw [rch_sgn] at c3
  rw [rch_sgn, same_self] at c4
  obtain ⟨p0, p1, p2, p3, ep, _⟩ := ok4 o
  rw [ep] at c2 c3 c4
  rw [ag4, ag4] at c1 c2 c3 c4
  rw [ag4, ag4]
  have C1 := Lib.hid c1
  have C2 := Lib.hid c2
  have C3 := Lib.hid c3
  have C4 := Lib.hid c4
  have HT := Lib.hid ht
  have HK0 := Lib.hid (((Kx.nil none w).add (w.heap.size) (by simp) (.cells #[.int .u32 x0, .int .u32 x1, .int .u32 x2, .int .u32 x3] 24 (0, 0))).add (w.heap.size + 1) (by simp) (.cells #[.int .u32 y0, .int .u32 y1, .int .u32 y2, .int .u32 y3] 24 (0, 0)))
  have HK := Lib.hid HK0.out.drew
  have HGE := Lib.hid (show w.heap.size ≤ w.heap.size + 1 + 1 by omega)
  have q4 := eq4s
  have s0 := same_self
  clear c1 c2 c3 c4 ht hl ep o
  go_enter Tryd.func5, Tryd.ntmps5
  go_upto_region 1 with fail
  go_cut [5, 6] (fun s5 s6 wx => ∃ g c n : Nat, s5 = .slice (some ⟨g, 0, none⟩) 35 c ∧ s6 = .pointer (some ⟨n, 0, none⟩) ∧ 35 ≤ c ∧ Hid (Kx none w wx [(w.heap.size, .cells #[.int .u32 x0, .int .u32 x1, .int .u32 x2, .int .u32 x3] 24 (0, 0)), (w.heap.size + 1, .cells #[.int .u32 y0, .int .u32 y1, .int .u32 y2, .int .u32 y3] 24 (0, 0)), (n, .cells #[.int .u32 p0, .int .u32 p1, .int .u32 p2, .int .u32 p3] 24 (0, 0))]) ∧ Hid (DRow wx g 0 (sgn [x0, x1, x2, x3] [y0, y1, y2, y3])))
  case first =>
    go_region_held3 (fun W => W.cell? ⟨w.heap.size, 0, none⟩ = some (.int .u32 x0) ∧ W.cell? ⟨w.heap.size, 1, none⟩ = some (.int .u32 x1) ∧ W.cell? ⟨w.heap.size, 2, none⟩ = some (.int .u32 x2) ∧ W.cell? ⟨w.heap.size, 3, none⟩ = some (.int .u32 x3) ∧ W.cell? ⟨w.heap.size + 1, 0, none⟩ = some (.int .u32 y0) ∧ W.cell? ⟨w.heap.size + 1, 1, none⟩ = some (.int .u32 y1) ∧ W.cell? ⟨w.heap.size + 1, 2, none⟩ = some (.int .u32 y2) ∧ W.cell? ⟨w.heap.size + 1, 3, none⟩ = some (.int .u32 y3))
      (first | (with_reducible exact all2 (HK.out.put4 2 rfl (.inr hge) (.int .u32 p0) (.int .u32 p1) (.int .u32 p2) (.int .u32 p3))) | (with_reducible exact all2 (HK.out.more (.cells #[.int .u32 p0, .int .u32 p1, .int .u32 p2, .int .u32 p3] 24 (0, 0)))) | (with_reducible exact all2 HK.out) | (with_reducible exact all2 (HK.out.more (.cells #[.int .u32 0, .int .u32 0, .int .u32 0, .int .u32 0] 24 (0, 0)))) | (with_reducible exact all2 (HK0.out.more (.cells #[.int .u32 0, .int .u32 0, .int .u32 0, .int .u32 0] 24 (0, 0))).drew))
      (first
        | (go_at_call 17; with_reducible refine (C1.out _ (HT.out.oldn HK.out)).mono ?_; rintro e w' ⟨g1, c1, rfl, hc1, _, hdr, hgg, hb⟩; have HD := Lib.hid hdr; clear hdr; replace HK := Lib.hid (HK.out.after hb); clear hb)
        | (go_at_call 17; with_reducible refine (C1.out _ (HT.out.oldn (HK0.out.more (.cells #[.int .u32 0, .int .u32 0, .int .u32 0, .int .u32 0] 24 (0, 0))).drew)).mono ?_; rintro e w' ⟨g1, c1, rfl, hc1, _, hdr, hgg, hb⟩; have HD := Lib.hid hdr; clear hdr; have hge := HGE.out; have hne := ne_new hgg ((HK0.out.add (w.heap.size + 1 + 1) (by simp) (.cells #[.int .u32 0, .int .u32 0, .int .u32 0, .int .u32 0] 24 (0, 0))).drew.lt 2 rfl); replace HK := Lib.hid ((HK0.out.add (w.heap.size + 1 + 1) (by simp) (.cells #[.int .u32 0, .int .u32 0, .int .u32 0, .int .u32 0] 24 (0, 0))).drew.after hb); clear hb)
        | (go_at_call 14; with_reducible refine (C2.out _ (HT.out.oldn HK.out)).mono ?_; rintro e w' ⟨rfl, hb⟩; replace HK := Lib.hid (HK.out.after hb); replace HD := Lib.hid (HD.out.kept hb); clear hb; try (obtain ⟨b0, b1, b2, b3, e0, e1, e2, e3⟩ := cells4 (HK.out.at 2 rfl)))
        | (go_at_call 14; with_reducible refine (C2.out _ (HT.out.oldn (HK.out.more (.cells #[.int .u32 0, .int .u32 0, .int .u32 0, .int .u32 0] 24 (0, 0))))).mono ?_; rintro e w' ⟨rfl, hb⟩; have hge := HK.out.be.size; have hne := (Nat.ne_of_lt HD.out.lt).symm; replace HK := Lib.hid ((HK.out.more (.cells #[.int .u32 0, .int .u32 0, .int .u32 0, .int .u32 0] 24 (0, 0))).after hb); replace HD := Lib.hid (HD.out.kept (((Below.refl _ _).alloc (Nat.le_refl _) _).trans (hb.mono (by simp)))); clear hb; obtain ⟨b0, b1, b2, b3, e0, e1, e2, e3⟩ := cells4 (HK.out.at 2 rfl)))
    all_goals
      go_wp2_with fail
      go_meet
      first
        | exact ⟨_, _, _, rfl, rfl, hc1, Lib.hid (HK.out.put4 2 rfl (.inr hge) (.int .u32 p0) (.int .u32 p1) (.int .u32 p2) (.int .u32 p3)), Lib.hid (HD.out.set4 hne _ _ _ _ _ _ _ _)⟩
        | exact ⟨_, _, _, rfl, rfl, hc1, Lib.hid (HK.out.more _), Lib.hid (HD.out.alloc _)⟩
  case rest =>
    obtain ⟨g, c, n, rfl, rfl, hc, HKC, HDC⟩ := hcut
    clear HK HK0 C1 C2 HGE
    obtain ⟨m0, m1, m2, m3, _⟩ := cells4 (HKC.out.at 1 rfl)
    go_wp2_with fail
    refine (C3.out _ _ _ hc HDC.out (HT.out.oldn HKC.out)).mono ?_
    rintro e w4 ⟨rfl, hb⟩
    have HK := Lib.hid ((HKC.out.after hb).add w4.heap.size rfl (.cells #[.int .u32 p0, .int .u32 p1, .int .u32 p2, .int .u32 p3] 24 (0, 0)))
    have HD := Lib.hid ((HDC.out.kept hb).alloc (.cells #[.int .u32 p0, .int .u32 p1, .int .u32 p2, .int .u32 p3] 24 (0, 0)))
    clear hb m0 m1 m2 m3 HKC HDC
    go_wp2_with fail
    refine (awake_any _ (HT.out.oldn HK.out)).mono ?_
    rintro e w5 ⟨rfl, hb⟩
    replace HK := Lib.hid (HK.out.after hb)
    replace HD := Lib.hid (HD.out.kept hb)
    clear hb
    obtain ⟨m0, m1, m2, m3, _⟩ := cells4 (HK.out.at 1 rfl)
    obtain ⟨u0, u1, u2, u3, _⟩ := cells4 (HK.out.at 2 rfl)
    go_wp2_with fail
    refine (C4.out _ _ _ hc HD.out (HT.out.oldn HK.out)).mono ?_
    rintro e w6 ⟨rfl, hb⟩
    replace HK := Lib.hid (HK.out.after hb)
    clear hb m0 m1 m2 m3 u0 u1 u2 u3
    obtain ⟨u0, u1, u2, u3, _⟩ := cells4 (HK.out.at 2 rfl)
    obtain ⟨v0, v1, v2, v3, _⟩ := cells4 (HK.out.at 3 rfl)
    go_wp2_with fail
    go_ret
    exact ⟨rfl, HK.out.be.plain⟩

set_option maxRecDepth 100000 in
theorem contract (H : Type) (enc : TypeId × Value → H) (W : World) (base : Nat) (args : Array Value) (ds gs : List (DataW H)) (before : List MemPlace)
    (hval : ∀ (j : Nat) t v, Tryd.f5.params[j]? = some t → args[j]? = some v → Value.okWide Tryd.prog W .any base t v)
    (hW : DataW.Whole enc Tryd.prog Tryd.f5.params.toList Rows.onetimeHoldsSpec.vars false W args.toList ds gs before) (hL : laidMetH Tryd.prog Rows.onetimeHoldsRow.laid W) :
    Calls Tryd.prog 5 args W fun e W' => ∃ v, e = .returned v ∧ Rows.onetimeHoldsSpec.post enc Tryd.prog Tryd.f5 false true false false W args v W' := by
  have hW' := hW
  obtain ⟨p, q, hA0, hV, rfl, hfz, hnd⟩ := hW
  have hA : DataW.TrodAll enc Tryd.prog W 0 (fun _ => true) true Tryd.f5.params.toList args.toList ds p := hA0
  rw [Tryd.params5] at hA hval
  obtain ⟨v0, vs0, d0, ds0, p0, q0, hargs, rfl, rfl, h0, r0⟩ := trodAll_cons hA
  obtain ⟨v1, vs1, d1, ds1, p1, q1, rfl, rfl, rfl, h1, r1⟩ := trodAll_cons r0
  obtain ⟨rfl, rfl, rfl⟩ := trodAll_nil r1
  obtain rfl : args = #[v0, v1] := by cases args; simp_all
  obtain ⟨rfl, rfl⟩ := trodVars_none hV
  have lt0 : ∀ x ∈ p0, x.block < W.heap.size := by obtain ⟨m, hm⟩ := h0; exact DataW.trod_lt m _ _ _ hm
  obtain ⟨x00, x01, x02, x03, rfl, o0⟩ := open_dig (hval 0 24 v0 rfl rfl) h0
  have lt1 : ∀ x ∈ p1, x.block < W.heap.size := by obtain ⟨m, hm⟩ := h1; exact DataW.trod_lt m _ _ _ hm
  obtain ⟨x10, x11, x12, x13, rfl, o1⟩ := open_dig (hval 1 24 v1 rfl rfl) h1
  clear hA0
  refine (walk o0 o1 W  (tabs_of hL)).mono fun e W' ⟨he, bel⟩ => ?_
  subst he
  exact ⟨_, rfl, _, _, _, [], _, [], hW', trodAll_mk1 (shut_bool Tryd.underlying4 _), (trodAll_cons_mk (Below.trod laidOut (by kernel_rfl) (of_decide_eq_true (by kernel_rfl)) h0 bel lt0) (trodAll_cons_mk (Below.trod laidOut (by kernel_rfl) (of_decide_eq_true (by kernel_rfl)) h1 bel lt1) trodAll_mk0)), rfl, bel.frame _, fun h => by cases h⟩

theorem laid_met (os : Os) : laidMet Tryd.prog Rows.onetimeHoldsRow.laid ((laidWorld os).forCall (fun _ _ => 0) ⟨#[], #[.agg #[.int .u32 0, .int .u32 0, .int .u32 0, .int .u32 0], .agg #[.int .u32 0, .int .u32 0, .int .u32 0, .int .u32 0]], []⟩).memory :=
  laidMet_of_run' 8 (by kernel_rfl) (by kernel_rfl)
theorem reads (os : Os) {H : Type} (enc : TypeId × Value → H) : ∃ places, DataW.whole enc Tryd.prog ((laidWorld os).forCall (fun _ _ => 0) ⟨#[], #[.agg #[.int .u32 0, .int .u32 0, .int .u32 0, .int .u32 0], .agg #[.int .u32 0, .int .u32 0, .int .u32 0, .int .u32 0]], []⟩).memory Tryd.f5.params.toList Rows.onetimeHoldsSpec.vars false (#[.agg #[.int .u32 0, .int .u32 0, .int .u32 0, .int .u32 0], .agg #[.int .u32 0, .int .u32 0, .int .u32 0, .int .u32 0]] : Array Value).toList 8 = some ([.agg [.lit (.int .u32 0), .lit (.int .u32 0), .lit (.int .u32 0), .lit (.int .u32 0)], .agg [.lit (.int .u32 0), .lit (.int .u32 0), .lit (.int .u32 0), .lit (.int .u32 0)]], [], places) :=
  ⟨[], by kernel_rfl⟩

set_option maxRecDepth 100000 in
theorem lifted (os : Os) (started : os.Started) (H : Type) (enc : TypeId × Value → H) (F : Stop.Interp) :
    ReturnsInHanded {} Tryd.checked os 5 .any ((OpenSpec.ofChange Rows.onetimeHoldsSpec).preRow enc Tryd.prog Tryd.f5 Rows.onetimeHoldsRow.domain false Rows.onetimeHoldsRow.laid) (((OpenSpec.ofChange Rows.onetimeHoldsSpec).at F).post enc Tryd.prog Tryd.f5 false true false false) := by
  obtain ⟨places, hx⟩ := reads os enc
  refine returnsInHanded_of_row (C := Tryd.checked) (s := OpenSpec.ofChange Rows.onetimeHoldsSpec) own started (by kernel_rfl) Tryd.func5
    (witness_row_at (enc := enc) (C := Tryd.checked) false (laidWorld os) #[.agg #[.int .u32 0, .int .u32 0, .int .u32 0, .int .u32 0], .agg #[.int .u32 0, .int .u32 0, .int .u32 0, .int .u32 0]] rfl (by kernel_rfl) (by kernel_rfl) (by kernel_rfl)
      (OpenSpec.preRow_of_cond 8 hx (by kernel_rfl) (fun k hk => by cases hk) (by kernel_rfl) (laid_met os))) ?_
  intro W base args ds gs before hval hW _ _ _ hL _ _
  exact contract H enc W base args ds gs before hval hW hL

theorem said : Rows.OnetimeHoldsSaid :=
  OpenClaim.holds_of_cond 5 Tryd.f5 rfl rfl rfl rfl rfl rfl rfl ⟨rfl, rfl, rfl, rfl, rfl⟩ rfl rfl rfl rfl rfl (by kernel_rfl) Tryd.func5 (by kernel_rfl)
    (of_decide_eq_true (by kernel_rfl)) (by unfold Func.isWrapper; first | (rw [if_pos (by decide +kernel)]; kernel_rfl) | (rw [if_neg (by decide +kernel)]; exact ⟨rfl, rfl⟩))
    (fun os started H enc _ F => by rw [OpenClaim.pre_eq_preRow]; exact lifted os started H enc F)

theorem plain (f : FuncId) (fn : Func) (hf : Tryd.pinned.checked.prog.funcNamed "seedcorn/seedcornlaw05.OnetimeHolds" = some f) (hfn : Tryd.pinned.checked.prog.funcs[f]? = some fn) :
    false = Tryd.pinned.checked.prog.looks [] ∧ ∀ (j : Nat) t, fn.params[j]? = some t → Tryd.pinned.checked.prog.wantsStandIn t = false := by
  obtain rfl : f = 5 := Option.some.inj ((show Tryd.prog.funcNamed "seedcorn/seedcornlaw05.OnetimeHolds" = some 5 by kernel_rfl).symm.trans hf) |>.symm
  obtain rfl : fn = Tryd.f5 := (Option.some.inj (Tryd.func5.symm.trans hfn)).symm
  refine ⟨by kernel_rfl, fun j t ht => ?_⟩
  rw [Tryd.params5] at ht
  have hm := Array.mem_of_getElem? ht
  have hm' : t = 24 := by simpa using hm
  rcases hm' with rfl
  · exact (show Tryd.prog.wantsStandIn 24 = false by kernel_rfl)

/-- The card. -/
theorem card : Rows.OnetimeHoldsCardSaid :=
  Claim7.holds_tied_plain_at .later [] _ _ _ _ said (fun _ h => by cases h) (by kernel_rfl) (fun _ h => by cases h) onetimeHolds_row_tie rfl ⟨rfl, rfl⟩ (by kernel_rfl) rfl plain (by kernel_rfl)
end Go.Proofs.YtnobnnbckehikaaDoor.onetimeHolds
