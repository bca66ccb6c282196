/- The law OnetimeAhead: for every two messages with any values it returns true, and all read as before. The two tables that it reads hold what the program's text lays (the card ties them). No other condition. -/
import Derived.Test.YtnobnnbckehikaaDoorOneW
import Derived.Test.YtnobnnbckehikaaDoorOneQ
namespace Go.Proofs.YtnobnnbckehikaaDoor.onetimeAhead
open Go.ChangeShapes Go.WideShapes Go.ChangeAt Go.RowKit
set_option linter.unusedVariables false

theorem all10 {W : World} {b : Nat} {r0 r1 r2 r3 f0 f1 f2 f3 : Int} {A : Option Addr} {n cap : Nat} {A' : Option Addr} {n' cap' : Nat} (h : W.heap[b]? = some (.cells #[.int .u32 r0, .int .u32 r1, .int .u32 r2, .int .u32 r3, .int .u32 f0, .int .u32 f1, .int .u32 f2, .int .u32 f3, .slice A n cap, .slice A' n' cap'] 44 (0, 0))) : W.cell? ⟨b, 0, none⟩ = some (.int .u32 r0) ∧ W.cell? ⟨b, 1, none⟩ = some (.int .u32 r1) ∧ W.cell? ⟨b, 2, none⟩ = some (.int .u32 r2) ∧ W.cell? ⟨b, 3, none⟩ = some (.int .u32 r3) ∧ W.cell? ⟨b, 4, none⟩ = some (.int .u32 f0) ∧ W.cell? ⟨b, 5, none⟩ = some (.int .u32 f1) ∧ W.cell? ⟨b, 6, none⟩ = some (.int .u32 f2) ∧ W.cell? ⟨b, 7, none⟩ = some (.int .u32 f3) ∧ W.cell? ⟨b, 8, none⟩ = some (.slice A n cap) ∧ W.cell? ⟨b, 9, none⟩ = some (.slice A' n' cap') := by
  simp [World.cell?, h]
theorem ahv_form (a b : Ws) {s t : Dl} (ho : Oks t) (hl : t.length = 35) : ∃ (I : Int) (p0 p1 p2 p3 : Int) (B : Bool), ahv a b s t = .tuple #[.int .i64 I, .agg #[.int .u32 p0, .int .u32 p1, .int .u32 p2, .int .u32 p3], .bool B] := by
  cases h : ahd a b s t with
  | none => exact ⟨0, 0, 0, 0, 0, false, by unfold ahv; rw [h]⟩
  | some i =>
    have hi := (ahd_inv h).1
    obtain ⟨p0, p1, p2, p3, e, _⟩ := ok4 (ho _ (List.getElem_mem (l := t) (n := i) (by omega)))
    exact ⟨i, p0, p1, p2, p3, true, ahv_some h (by rw [List.getD_eq_getElem?_getD, List.getElem?_eq_getElem (by omega), e]; rfl)⟩
set_option maxRecDepth 100000 in
set_option maxHeartbeats 4000000 in
theorem walk_yes {r0 r1 r2 r3 f0 f1 f2 f3 : Int} {A : Option Addr} {n cap : Nat} {A' : Option Addr} {n' cap' : Nat} {l l' : Dl} (o0 : Ok4 [r0, r1, r2, r3]) (o1 : Ok4 [f0, f1, f2, f3]) (hl : l.length = n) (hl' : l'.length = n') (hc : n ≤ cap) (hc' : n' ≤ cap') (h35 : n = 35) (h35' : n' = 35) (w : World) (hd : Dd w A l) (hd' : Dd w A' l') (ht : Tabs w) :
    Calls Tryd.prog 9 #[.agg #[.int .u32 r0, .int .u32 r1, .int .u32 r2, .int .u32 r3, .int .u32 f0, .int .u32 f1, .int .u32 f2, .int .u32 f3, .slice A n cap, .slice A' n' cap']] w fun e w' => e = .returned (.bool true) ∧ Below w.heap.size w w' := by
  subst h35 h35'
  obtain ⟨b, off, rfl, hr⟩ := hd.2 (fun e => by rw [e] at hl; simp at hl)
  obtain ⟨b', off', rfl, hr'⟩ := hd'.2 (fun e => by rw [e] at hl'; simp at hl')
  have c1 := fun w u1 u2 ht => ahead_row (bs := b) (os := off) (cs := cap) (bt := b') (ot := off') (ct := cap') (s := l) (t := l') [r0, r1, r2, r3] [f0, f1, f2, f3] w o0 o1 hl hl' hc hc' u1 u2 ht
  have c2 := fun w u1 u2 => aheadr_row (bs := b) (os := off) (cs := cap) (bt := b') (ot := off') (ct := cap') (s := l) (t := l') [r0, r1, r2, r3] [f0, f1, f2, f3] w o0 o1 hl hl' hc hc' u1 u2
  obtain ⟨K, p0, p1, p2, p3, bb, e⟩ := ahv_form [r0, r1, r2, r3] [f0, f1, f2, f3] (s := l) hd'.1 hl'
  rw [e] at c1 c2
  rw [ag4, ag4] at c1 c2
  have C1 := Lib.hid c1
  have C2 := Lib.hid c2
  have HT := Lib.hid ht
  have HR := Lib.hid hr
  have HR' := Lib.hid hr'
  have HK := Lib.hid ((Kx.nil none w).add (w.heap.size) (by simp) (.cells #[.int .u32 r0, .int .u32 r1, .int .u32 r2, .int .u32 r3, .int .u32 f0, .int .u32 f1, .int .u32 f2, .int .u32 f3, .slice (some ⟨b, off, none⟩) 35 cap, .slice (some ⟨b', off', none⟩) 35 cap'] 44 (0, 0)))
  have i0 : ¬ (40 : Int) < ((35 : Nat) : Int) := by omega
  have i1 : ¬ (40 : Int) < ((35 : Nat) : Int) := by omega
  have q4 := eq4s
  have s0 := same_self
  clear c1 c2 ht hr hr' hd hd' e
  obtain ⟨k0, k1, k2, k3, k4, k5, k6, k7, k8, k9⟩ := all10 (HK.out.at 0 rfl)
  go_enter Tryd.func9, Tryd.ntmps9
  go_wp2_with fail
  refine (C1.out _ (HR.out.oldn HK.out) (HR'.out.oldn HK.out) (HT.out.oldn HK.out)).mono ?_
  rintro e w1 ⟨rfl, hb⟩
  replace HK := Lib.hid ((HK.out.after hb).add w1.heap.size rfl (.cells #[.int .u32 p0, .int .u32 p1, .int .u32 p2, .int .u32 p3] 24 (0, 0)))
  clear hb k0 k1 k2 k3 k4 k5 k6 k7 k8 k9
  obtain ⟨k0, k1, k2, k3, k4, k5, k6, k7, k8, k9⟩ := all10 (HK.out.at 0 rfl)
  go_wp2_with fail
  refine (C2.out _ (HR.out.oldn HK.out) (HR'.out.oldn HK.out)).mono ?_
  rintro e w2 ⟨rfl, hb⟩
  replace HK := Lib.hid ((HK.out.after hb).add w2.heap.size rfl (.cells #[.int .u32 p0, .int .u32 p1, .int .u32 p2, .int .u32 p3] 24 (0, 0)))
  clear hb k0 k1 k2 k3 k4 k5 k6 k7 k8 k9
  go_wp2_with fail
  refine (awake_any _ (HT.out.oldn HK.out)).mono ?_
  rintro e w3 ⟨rfl, hb⟩
  replace HK := Lib.hid (HK.out.after hb)
  clear hb
  obtain ⟨u0, u1, u2, u3, _⟩ := cells4 (HK.out.at 1 rfl)
  obtain ⟨v0, v1, v2, v3, _⟩ := cells4 (HK.out.at 2 rfl)
  go_wp2_with fail
  go_ret
  exact ⟨rfl, HK.out.be.plain⟩
set_option maxRecDepth 100000 in
set_option maxHeartbeats 4000000 in
theorem walk_no {r0 r1 r2 r3 f0 f1 f2 f3 : Int} {A : Option Addr} {n cap : Nat} {A' : Option Addr} {n' cap' : Nat} (o0 : Ok4 [r0, r1, r2, r3]) (o1 : Ok4 [f0, f1, f2, f3]) (hn : n ≤ 40) (hn' : n' ≤ 40) (h35 : n ≠ 35 ∨ n' ≠ 35) (w : World) (ht : Tabs w) :
    Calls Tryd.prog 9 #[.agg #[.int .u32 r0, .int .u32 r1, .int .u32 r2, .int .u32 r3, .int .u32 f0, .int .u32 f1, .int .u32 f2, .int .u32 f3, .slice A n cap, .slice A' n' cap']] w fun e w' => e = .returned (.bool true) ∧ Below w.heap.size w w' := by
  have c1 := fun w => ahead_no (A := A) (B := A') (n := n) (m := n') (cap := cap) (cp := cap') [r0, r1, r2, r3] [f0, f1, f2, f3] w o0 o1 h35 (by omega) (by omega)
  have c2 := fun w => aheadr_no (A := A) (B := A') (n := n) (m := n') (cap := cap) (cp := cap') [r0, r1, r2, r3] [f0, f1, f2, f3] w o0 o1 h35 (by omega) (by omega)
  rw [ag4, ag4] at c1 c2
  have C1 := Lib.hid c1
  have C2 := Lib.hid c2
  have HT := Lib.hid ht
  have HK := Lib.hid ((Kx.nil none w).add (w.heap.size) (by simp) (.cells #[.int .u32 r0, .int .u32 r1, .int .u32 r2, .int .u32 r3, .int .u32 f0, .int .u32 f1, .int .u32 f2, .int .u32 f3, .slice A n cap, .slice A' n' cap'] 44 (0, 0)))
  have i0 : ¬ (40 : Int) < ((n : Nat) : Int) := by omega
  have i1 : ¬ (40 : Int) < ((n' : Nat) : Int) := by omega
  have q4 := eq4s
  have s0 := same_self
  clear c1 c2 ht
  obtain ⟨k0, k1, k2, k3, k4, k5, k6, k7, k8, k9⟩ := all10 (HK.out.at 0 rfl)
  go_enter Tryd.func9, Tryd.ntmps9
  go_wp2_with fail
  refine (C1.out _ ).mono ?_
  rintro e w1 ⟨rfl, hb⟩
  replace HK := Lib.hid ((HK.out.after hb).add w1.heap.size rfl (.cells #[.int .u32 0, .int .u32 0, .int .u32 0, .int .u32 0] 24 (0, 0)))
  clear hb k0 k1 k2 k3 k4 k5 k6 k7 k8 k9
  obtain ⟨k0, k1, k2, k3, k4, k5, k6, k7, k8, k9⟩ := all10 (HK.out.at 0 rfl)
  go_wp2_with fail
  refine (C2.out _ ).mono ?_
  rintro e w2 ⟨rfl, hb⟩
  replace HK := Lib.hid ((HK.out.after hb).add w2.heap.size rfl (.cells #[.int .u32 0, .int .u32 0, .int .u32 0, .int .u32 0] 24 (0, 0)))
  clear hb k0 k1 k2 k3 k4 k5 k6 k7 k8 k9
  go_wp2_with fail
  refine (awake_any _ (HT.out.oldn HK.out)).mono ?_
  rintro e w3 ⟨rfl, hb⟩
  replace HK := Lib.hid (HK.out.after hb)
  clear hb
  obtain ⟨u0, u1, u2, u3, _⟩ := cells4 (HK.out.at 1 rfl)
  obtain ⟨v0, v1, v2, v3, _⟩ := cells4 (HK.out.at 2 rfl)
  go_wp2_with fail
  go_ret
  exact ⟨rfl, HK.out.be.plain⟩
set_option maxRecDepth 100000 in
set_option maxHeartbeats 4000000 in
theorem walk_long {r0 r1 r2 r3 f0 f1 f2 f3 : Int} {A : Option Addr} {n cap : Nat} {A' : Option Addr} {n' cap' : Nat} (hn : 40 < n ∨ 40 < n') (h0 : n ≤ 9223372036854775807) (h0' : n' ≤ 9223372036854775807) (w : World) (ht : Tabs w) :
    Calls Tryd.prog 9 #[.agg #[.int .u32 r0, .int .u32 r1, .int .u32 r2, .int .u32 r3, .int .u32 f0, .int .u32 f1, .int .u32 f2, .int .u32 f3, .slice A n cap, .slice A' n' cap']] w fun e w' => e = .returned (.bool true) ∧ Below w.heap.size w w' := by
  have HT := Lib.hid ht
  have HK := Lib.hid ((Kx.nil none w).add (w.heap.size) (by simp) (.cells #[.int .u32 r0, .int .u32 r1, .int .u32 r2, .int .u32 r3, .int .u32 f0, .int .u32 f1, .int .u32 f2, .int .u32 f3, .slice A n cap, .slice A' n' cap'] 44 (0, 0)))
  clear ht
  obtain ⟨k0, k1, k2, k3, k4, k5, k6, k7, k8, k9⟩ := all10 (HK.out.at 0 rfl)
  by_cases h : 40 < n
  · have i0 : (40 : Int) < (n : Int) := by omega
    clear hn h
    go_enter Tryd.func9, Tryd.ntmps9
    go_wp2_with fail
    refine (awake_any _ (HT.out.oldn HK.out)).mono ?_
    rintro e w1 ⟨rfl, hb⟩
    replace HK := Lib.hid (HK.out.after hb)
    clear hb k0 k1 k2 k3 k4 k5 k6 k7 k8 k9
    go_wp2_with fail
    go_ret
    exact ⟨rfl, HK.out.be.plain⟩
  · have i0 : ¬ (40 : Int) < (n : Int) := by omega
    have i1 : (40 : Int) < (n' : Int) := by omega
    clear hn h
    go_enter Tryd.func9, Tryd.ntmps9
    go_wp2_with fail
    refine (awake_any _ (HT.out.oldn HK.out)).mono ?_
    rintro e w1 ⟨rfl, hb⟩
    replace HK := Lib.hid (HK.out.after hb)
    clear hb k0 k1 k2 k3 k4 k5 k6 k7 k8 k9
    go_wp2_with fail
    go_ret
    exact ⟨rfl, HK.out.be.plain⟩
theorem walk {r0 r1 r2 r3 f0 f1 f2 f3 : Int} {A : Option Addr} {n cap : Nat} {A' : Option Addr} {n' cap' : Nat} {l l' : Dl} (o0 : Ok4 [r0, r1, r2, r3]) (o1 : Ok4 [f0, f1, f2, f3]) (hl : l.length = n) (hl' : l'.length = n') (hc : n ≤ cap) (hc' : n' ≤ cap') (hm : cap ≤ maxLen) (hm' : cap' ≤ maxLen) (w : World) (hd : Dd w A l) (hd' : Dd w A' l') (ht : Tabs w) :
    Calls Tryd.prog 9 #[.agg #[.int .u32 r0, .int .u32 r1, .int .u32 r2, .int .u32 r3, .int .u32 f0, .int .u32 f1, .int .u32 f2, .int .u32 f3, .slice A n cap, .slice A' n' cap']] w fun e w' => e = .returned (.bool true) ∧ Below w.heap.size w w' := by
  unfold maxLen at hm hm'
  by_cases h : 40 < n ∨ 40 < n'
  · exact walk_long h (by omega) (by omega) w ht
  · by_cases h35 : n = 35 ∧ n' = 35
    · exact walk_yes o0 o1 hl hl' hc hc' h35.1 h35.2 w hd hd' ht
    · exact walk_no o0 o1 (by omega) (by omega) (by omega) w ht

set_option maxRecDepth 100000 in
theorem contract (H : Type) (enc : TypeId × Value → H) (W : World) (base : Nat) (args : Array Value) (ds gs : List (DataW H)) (before : List MemPlace)
    (hval : ∀ (j : Nat) t v, Tryd.f9.params[j]? = some t → args[j]? = some v → Value.okWide Tryd.prog W .any base t v)
    (hW : DataW.Whole enc Tryd.prog Tryd.f9.params.toList Rows.onetimeAheadSpec.vars false W args.toList ds gs before) (hL : laidMetH Tryd.prog Rows.onetimeAheadRow.laid W) :
    Calls Tryd.prog 9 args W fun e W' => ∃ v, e = .returned v ∧ Rows.onetimeAheadSpec.post enc Tryd.prog Tryd.f9 false true false false W args v W' := by
  have hW' := hW
  obtain ⟨p, q, hA0, hV, rfl, hfz, hnd⟩ := hW
  have hA : DataW.TrodAll enc Tryd.prog W 0 (fun _ => true) true Tryd.f9.params.toList args.toList ds p := hA0
  rw [Tryd.params9] at hA hval
  obtain ⟨v0, vs0, d0, ds0, p0, q0, hargs, rfl, rfl, h0, r0⟩ := trodAll_cons hA
  obtain ⟨rfl, rfl, rfl⟩ := trodAll_nil r0
  obtain rfl : args = #[v0] := by cases args; simp_all
  obtain ⟨rfl, rfl⟩ := trodVars_none hV
  have lt0 : ∀ x ∈ p0, x.block < W.heap.size := by obtain ⟨m, hm⟩ := h0; exact DataW.trod_lt m _ _ _ hm
  obtain ⟨r0, r1, r2, r3, f0, f1, f2, f3, A, n, cap, l, A', n', cap', l', rfl, oR, oF, ⟨hl, hc, hm, hd⟩, ⟨hl', hc', hm', hd'⟩⟩ := open_ask (hval 0 44 v0 rfl rfl) h0
  clear hA0
  refine (walk oR oF hl hl' hc hc' hm hm' W hd hd' (tabs_of hL)).mono fun e W' ⟨he, bel⟩ => ?_
  subst he
  exact ⟨_, rfl, _, _, _, [], _, [], hW', trodAll_mk1 (shut_bool Tryd.underlying4 _), (trodAll_cons_mk (Below.trod laidOut (by kernel_rfl) (of_decide_eq_true (by kernel_rfl)) h0 bel lt0) trodAll_mk0), rfl, bel.frame _, fun h => by cases h⟩

theorem laid_met (os : Os) : laidMet Tryd.prog Rows.onetimeAheadRow.laid ((laidWorld os).forCall (fun _ _ => 0) ⟨#[], #[.agg #[.int .u32 0, .int .u32 0, .int .u32 0, .int .u32 0, .int .u32 0, .int .u32 0, .int .u32 0, .int .u32 0, .slice none 0 0, .slice none 0 0]], []⟩).memory :=
  laidMet_of_run' 8 (by kernel_rfl) (by kernel_rfl)
theorem reads (os : Os) {H : Type} (enc : TypeId × Value → H) : ∃ places, DataW.whole enc Tryd.prog ((laidWorld os).forCall (fun _ _ => 0) ⟨#[], #[.agg #[.int .u32 0, .int .u32 0, .int .u32 0, .int .u32 0, .int .u32 0, .int .u32 0, .int .u32 0, .int .u32 0, .slice none 0 0, .slice none 0 0]], []⟩).memory Tryd.f9.params.toList Rows.onetimeAheadSpec.vars false (#[.agg #[.int .u32 0, .int .u32 0, .int .u32 0, .int .u32 0, .int .u32 0, .int .u32 0, .int .u32 0, .int .u32 0, .slice none 0 0, .slice none 0 0]] : Array Value).toList 8 = some ([.agg [.agg [.lit (.int .u32 0), .lit (.int .u32 0), .lit (.int .u32 0), .lit (.int .u32 0)], .agg [.lit (.int .u32 0), .lit (.int .u32 0), .lit (.int .u32 0), .lit (.int .u32 0)], .nil, .nil]], [], places) :=
  ⟨[], by kernel_rfl⟩

set_option maxRecDepth 100000 in
theorem lifted (os : Os) (started : os.Started) (H : Type) (enc : TypeId × Value → H) (F : Stop.Interp) :
    ReturnsInHanded {} Tryd.checked os 9 .any ((OpenSpec.ofChange Rows.onetimeAheadSpec).preRow enc Tryd.prog Tryd.f9 Rows.onetimeAheadRow.domain false Rows.onetimeAheadRow.laid) (((OpenSpec.ofChange Rows.onetimeAheadSpec).at F).post enc Tryd.prog Tryd.f9 false true false false) := by
  obtain ⟨places, hx⟩ := reads os enc
  refine returnsInHanded_of_row (C := Tryd.checked) (s := OpenSpec.ofChange Rows.onetimeAheadSpec) own started (by kernel_rfl) Tryd.func9
    (witness_row_at (enc := enc) (C := Tryd.checked) false (laidWorld os) #[.agg #[.int .u32 0, .int .u32 0, .int .u32 0, .int .u32 0, .int .u32 0, .int .u32 0, .int .u32 0, .int .u32 0, .slice none 0 0, .slice none 0 0]] rfl (by kernel_rfl) (by kernel_rfl) (by kernel_rfl)
      (OpenSpec.preRow_of_cond 8 hx (by kernel_rfl) (fun k hk => by cases hk) (by kernel_rfl) (laid_met os))) ?_
  intro W base args ds gs before hval hW _ _ _ hL _ _
  exact contract H enc W base args ds gs before hval hW hL

theorem said : Rows.OnetimeAheadSaid :=
  OpenClaim.holds_of_cond 9 Tryd.f9 rfl rfl rfl rfl rfl rfl rfl ⟨rfl, rfl, rfl, rfl, rfl⟩ rfl rfl rfl rfl rfl (by kernel_rfl) Tryd.func9 (by kernel_rfl)
    (of_decide_eq_true (by kernel_rfl)) (by unfold Func.isWrapper; first | (rw [if_pos (by decide +kernel)]; kernel_rfl) | (rw [if_neg (by decide +kernel)]; exact ⟨rfl, rfl⟩))
    (fun os started H enc _ F => by rw [OpenClaim.pre_eq_preRow]; exact lifted os started H enc F)

theorem plain (f : FuncId) (fn : Func) (hf : Tryd.pinned.checked.prog.funcNamed "seedcorn/seedcornlaw05.OnetimeAhead" = some f) (hfn : Tryd.pinned.checked.prog.funcs[f]? = some fn) :
    false = Tryd.pinned.checked.prog.looks [] ∧ ∀ (j : Nat) t, fn.params[j]? = some t → Tryd.pinned.checked.prog.wantsStandIn t = false := by
  obtain rfl : f = 9 := Option.some.inj ((show Tryd.prog.funcNamed "seedcorn/seedcornlaw05.OnetimeAhead" = some 9 by kernel_rfl).symm.trans hf) |>.symm
  obtain rfl : fn = Tryd.f9 := (Option.some.inj (Tryd.func9.symm.trans hfn)).symm
  refine ⟨by kernel_rfl, fun j t ht => ?_⟩
  rw [Tryd.params9] at ht
  have hm := Array.mem_of_getElem? ht
  have hm' : t = 44 := by simpa using hm
  rcases hm' with rfl
  · exact (show Tryd.prog.wantsStandIn 44 = false by kernel_rfl)

/-- The card. -/
theorem card : Rows.OnetimeAheadCardSaid :=
  Claim7.holds_tied_plain_at .later [] _ _ _ _ said (fun _ h => by cases h) (by kernel_rfl) (fun _ h => by cases h) onetimeAhead_row_tie rfl ⟨rfl, rfl⟩ (by kernel_rfl) rfl plain (by kernel_rfl)
end Go.Proofs.YtnobnnbckehikaaDoor.onetimeAhead
