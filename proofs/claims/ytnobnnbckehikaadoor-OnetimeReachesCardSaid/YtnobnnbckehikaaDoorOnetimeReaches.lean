/- The law OnetimeReaches: for every key, every message and every values it returns true, and all read as before. The two tables that it reads hold what the program's text lays (the card ties them). No other condition. -/
import Derived.Test.YtnobnnbckehikaaDoorOneW
import Derived.Test.YtnobnnbckehikaaDoorOneQ
namespace Go.Proofs.YtnobnnbckehikaaDoor.onetimeReaches
open Go.ChangeShapes Go.WideShapes Go.ChangeAt Go.RowKit
set_option linter.unusedVariables false

theorem all4 {w W : World} {n0 n1 n2 n3 : Nat} {x0 x1 x2 x3 y0 y1 y2 y3 p0 p1 p2 p3 q0 q1 q2 q3 : Int} (h : Kx none w W [(n0, .cells #[.int .u32 x0, .int .u32 x1, .int .u32 x2, .int .u32 x3] 24 (0, 0)), (n1, .cells #[.int .u32 y0, .int .u32 y1, .int .u32 y2, .int .u32 y3] 24 (0, 0)), (n2, .cells #[.int .u32 p0, .int .u32 p1, .int .u32 p2, .int .u32 p3] 24 (0, 0)), (n3, .cells #[.int .u32 q0, .int .u32 q1, .int .u32 q2, .int .u32 q3] 24 (0, 0))]) : W.cell? ⟨n0, 0, none⟩ = some (.int .u32 x0) ∧ W.cell? ⟨n0, 1, none⟩ = some (.int .u32 x1) ∧ W.cell? ⟨n0, 2, none⟩ = some (.int .u32 x2) ∧ W.cell? ⟨n0, 3, none⟩ = some (.int .u32 x3) ∧ W.cell? ⟨n1, 0, none⟩ = some (.int .u32 y0) ∧ W.cell? ⟨n1, 1, none⟩ = some (.int .u32 y1) ∧ W.cell? ⟨n1, 2, none⟩ = some (.int .u32 y2) ∧ W.cell? ⟨n1, 3, none⟩ = some (.int .u32 y3) ∧ W.cell? ⟨n2, 0, none⟩ = some (.int .u32 p0) ∧ W.cell? ⟨n2, 1, none⟩ = some (.int .u32 p1) ∧ W.cell? ⟨n2, 2, none⟩ = some (.int .u32 p2) ∧ W.cell? ⟨n2, 3, none⟩ = some (.int .u32 p3) ∧ W.cell? ⟨n3, 0, none⟩ = some (.int .u32 q0) ∧ W.cell? ⟨n3, 1, none⟩ = some (.int .u32 q1) ∧ W.cell? ⟨n3, 2, none⟩ = some (.int .u32 q2) ∧ W.cell? ⟨n3, 3, none⟩ = some (.int .u32 q3) := by
  obtain ⟨kx0, kx1, kx2, kx3, _⟩ := cells4 (h.at 0 rfl)
  obtain ⟨ky0, ky1, ky2, ky3, _⟩ := cells4 (h.at 1 rfl)
  obtain ⟨kp0, kp1, kp2, kp3, _⟩ := cells4 (h.at 2 rfl)
  obtain ⟨kq0, kq1, kq2, kq3, _⟩ := cells4 (h.at 3 rfl)
  exact ⟨kx0, kx1, kx2, kx3, ky0, ky1, ky2, ky3, kp0, kp1, kp2, kp3, kq0, kq1, kq2, kq3⟩
set_option maxRecDepth 100000 in
set_option maxHeartbeats 4000000 in
theorem walk_yes {x0 x1 x2 x3 y0 y1 y2 y3 : Int} {A : Option Addr} {n cap : Nat} {l : Dl} (o0 : Ok4 [x0, x1, x2, x3]) (o1 : Ok4 [y0, y1, y2, y3]) (hl : l.length = n) (hn : n ≤ 40) (hc : n ≤ cap) (hm : cap ≤ 9223372036854775807) (h35 : n = 35) (w : World) (hd : Dd w A l) (ht : Tabs w) :
    Calls Tryd.prog 6 #[ag [x0, x1, x2, x3], ag [y0, y1, y2, y3], .slice A n cap] w fun e w' => e = .returned (.bool true) ∧ Below w.heap.size w w' := by
  subst h35
  obtain ⟨b, off, rfl, hr⟩ := hd.2 (fun e => by rw [e] at hl; simp at hl)
  have o := rch_ok (msg := [y0, y1, y2, y3]) hd.1 hl
  have c1 := fun w hr ht => reach_row (b := b) (off := off) (cap := cap) (l := l) [y0, y1, y2, y3] w o1 hl hc hr ht
  have c2 := fun w hr => reachr_row (b := b) (off := off) (cap := cap) (l := l) [y0, y1, y2, y3] w o1 hl hc hr
  have c3 := fun w hr ht => check5_row (b := b) (off := off) (cap := cap) (l := l) [x0, x1, x2, x3] [y0, y1, y2, y3] w o0 o1 hl hc hr ht
  have c4 := fun w hr => checkr5_row (b := b) (off := off) (cap := cap) (l := l) [x0, x1, x2, x3] [y0, y1, y2, y3] w o0 o1 hl hc hr
  have c5 := fun w hr ht => check5_row (b := b) (off := off) (cap := cap) (l := l) (rch [y0, y1, y2, y3] l) [y0, y1, y2, y3] w o o1 hl hc hr ht
  rw [same_self] at c5
  obtain ⟨p0, p1, p2, p3, ep, _⟩ := ok4 o
  rw [ep] at c1 c2 c3 c4 c5
  rw [ag4, ag4] at c1 c2 c3 c4 c5
  obtain ⟨bb, hbb⟩ : ∃ bb, same [p0, p1, p2, p3] [x0, x1, x2, x3] = bb := ⟨_, rfl⟩
  rw [hbb] at c3 c4
  rw [ag4, ag4]
  have C1 := Lib.hid c1
  have C2 := Lib.hid c2
  have C3 := Lib.hid c3
  have C4 := Lib.hid c4
  have C5 := Lib.hid c5
  have HT := Lib.hid ht
  have HR := Lib.hid hr
  have HK := Lib.hid (((Kx.nil none w).add (w.heap.size) (by simp) (.cells #[.int .u32 x0, .int .u32 x1, .int .u32 x2, .int .u32 x3] 24 (0, 0))).add (w.heap.size + 1) (by simp) (.cells #[.int .u32 y0, .int .u32 y1, .int .u32 y2, .int .u32 y3] 24 (0, 0)))
  have i0 : ¬ (40 : Int) < ((35 : Nat) : Int) := by omega
  have q4 := eq4s
  have s0 := same_self
  clear c1 c2 c3 c4 c5 ht hr hd hbb ep o
  obtain ⟨m0, m1, m2, m3, _⟩ := cells4 (HK.out.at 1 rfl)
  go_enter Tryd.func6, Tryd.ntmps6
  go_wp2_with fail
  refine (C1.out _ (HR.out.oldn HK.out) (HT.out.oldn HK.out)).mono ?_
  rintro e w1 ⟨rfl, hb⟩
  replace HK := Lib.hid ((HK.out.after hb).add w1.heap.size rfl (.cells #[.int .u32 p0, .int .u32 p1, .int .u32 p2, .int .u32 p3] 24 (0, 0)))
  clear hb m0 m1 m2 m3
  obtain ⟨m0, m1, m2, m3, _⟩ := cells4 (HK.out.at 1 rfl)
  go_wp2_with fail
  refine (C2.out _ (HR.out.oldn HK.out)).mono ?_
  rintro e w2 ⟨rfl, hb⟩
  replace HK := Lib.hid ((HK.out.after hb).add w2.heap.size rfl (.cells #[.int .u32 p0, .int .u32 p1, .int .u32 p2, .int .u32 p3] 24 (0, 0))).drew
  clear hb m0 m1 m2 m3
  go_wp2_with fail
  go_region_held3 (fun W => W.cell? ⟨w.heap.size, 0, none⟩ = some (.int .u32 x0) ∧ W.cell? ⟨w.heap.size, 1, none⟩ = some (.int .u32 x1) ∧ W.cell? ⟨w.heap.size, 2, none⟩ = some (.int .u32 x2) ∧ W.cell? ⟨w.heap.size, 3, none⟩ = some (.int .u32 x3) ∧ W.cell? ⟨w.heap.size + 1, 0, none⟩ = some (.int .u32 y0) ∧ W.cell? ⟨w.heap.size + 1, 1, none⟩ = some (.int .u32 y1) ∧ W.cell? ⟨w.heap.size + 1, 2, none⟩ = some (.int .u32 y2) ∧ W.cell? ⟨w.heap.size + 1, 3, none⟩ = some (.int .u32 y3) ∧ W.cell? ⟨w1.heap.size, 0, none⟩ = some (.int .u32 p0) ∧ W.cell? ⟨w1.heap.size, 1, none⟩ = some (.int .u32 p1) ∧ W.cell? ⟨w1.heap.size, 2, none⟩ = some (.int .u32 p2) ∧ W.cell? ⟨w1.heap.size, 3, none⟩ = some (.int .u32 p3) ∧ W.cell? ⟨w2.heap.size, 0, none⟩ = some (.int .u32 p0) ∧ W.cell? ⟨w2.heap.size, 1, none⟩ = some (.int .u32 p1) ∧ W.cell? ⟨w2.heap.size, 2, none⟩ = some (.int .u32 p2) ∧ W.cell? ⟨w2.heap.size, 3, none⟩ = some (.int .u32 p3))
    (with_reducible exact all4 HK.out)
    (first
      | (go_at_call 10; with_reducible refine (awake_any _ (HT.out.oldn HK.out)).mono ?_; rintro e w' ⟨rfl, hb⟩; replace HK := Lib.hid (HK.out.after hb); clear hb)
      | (go_at_call 20; with_reducible refine (C3.out _ (HR.out.oldn HK.out) (HT.out.oldn HK.out)).mono ?_; rintro e w' ⟨rfl, hb⟩; replace HK := Lib.hid (HK.out.after hb); clear hb)
      | (go_at_call 22; with_reducible refine (C4.out _ (HR.out.oldn HK.out)).mono ?_; rintro e w' ⟨rfl, hb⟩; replace HK := Lib.hid (HK.out.after hb); clear hb)
      | (go_at_call 20; with_reducible refine (C5.out _ (HR.out.oldn HK.out) (HT.out.oldn HK.out)).mono ?_; rintro e w' ⟨rfl, hb⟩; replace HK := Lib.hid (HK.out.after hb); clear hb))
  all_goals
    go_wp2_with fail
    go_ret
    exact ⟨rfl, HK.out.be.plain⟩
set_option maxRecDepth 100000 in
set_option maxHeartbeats 4000000 in
theorem walk_no {x0 x1 x2 x3 y0 y1 y2 y3 : Int} {A : Option Addr} {n cap : Nat} {l : Dl} (o0 : Ok4 [x0, x1, x2, x3]) (o1 : Ok4 [y0, y1, y2, y3]) (hl : l.length = n) (hn : n ≤ 40) (hc : n ≤ cap) (hm : cap ≤ 9223372036854775807) (h35 : n ≠ 35) (w : World) (hd : Dd w A l) (ht : Tabs w) :
    Calls Tryd.prog 6 #[ag [x0, x1, x2, x3], ag [y0, y1, y2, y3], .slice A n cap] w fun e w' => e = .returned (.bool true) ∧ Below w.heap.size w w' := by
  have o : Ok4 [(0 : Int), 0, 0, 0] := zero4_ok
  have c1 := fun w => reach_no (A := A) (n := n) (cap := cap) [y0, y1, y2, y3] w o1 h35 (by omega)
  have c2 := fun w => reachr_no (A := A) (n := n) (cap := cap) [y0, y1, y2, y3] w o1 h35 (by omega)
  have c3 := fun w => check5_no (A := A) (n := n) (cap := cap) [x0, x1, x2, x3] [y0, y1, y2, y3] w o0 o1 h35 (by omega)
  have c4 := fun w => checkr5_no (A := A) (n := n) (cap := cap) [x0, x1, x2, x3] [y0, y1, y2, y3] w o0 o1 h35 (by omega)
  have c5 := fun w => check5_no (A := A) (n := n) (cap := cap) [0, 0, 0, 0] [y0, y1, y2, y3] w zero4_ok o1 h35 (by omega)
  rw [ag4] at c1 c2 c3 c4 c5
  rw [ag4] at c3 c4 c5
  rw [ag4, ag4]
  have C1 := Lib.hid c1
  have C2 := Lib.hid c2
  have C3 := Lib.hid c3
  have C4 := Lib.hid c4
  have C5 := Lib.hid c5
  have HT := Lib.hid ht
  have HK := Lib.hid (((Kx.nil none w).add (w.heap.size) (by simp) (.cells #[.int .u32 x0, .int .u32 x1, .int .u32 x2, .int .u32 x3] 24 (0, 0))).add (w.heap.size + 1) (by simp) (.cells #[.int .u32 y0, .int .u32 y1, .int .u32 y2, .int .u32 y3] 24 (0, 0)))
  have i0 : ¬ (40 : Int) < ((n : Nat) : Int) := by omega
  have q4 := eq4s
  have s0 := same_self
  clear c1 c2 c3 c4 c5 ht hd o
  obtain ⟨m0, m1, m2, m3, _⟩ := cells4 (HK.out.at 1 rfl)
  go_enter Tryd.func6, Tryd.ntmps6
  go_wp2_with fail
  refine (C1.out _ ).mono ?_
  rintro e w1 ⟨rfl, hb⟩
  replace HK := Lib.hid ((HK.out.after hb).add w1.heap.size rfl (.cells #[.int .u32 0, .int .u32 0, .int .u32 0, .int .u32 0] 24 (0, 0)))
  clear hb m0 m1 m2 m3
  obtain ⟨m0, m1, m2, m3, _⟩ := cells4 (HK.out.at 1 rfl)
  go_wp2_with fail
  refine (C2.out _ ).mono ?_
  rintro e w2 ⟨rfl, hb⟩
  replace HK := Lib.hid ((HK.out.after hb).add w2.heap.size rfl (.cells #[.int .u32 0, .int .u32 0, .int .u32 0, .int .u32 0] 24 (0, 0))).drew
  clear hb m0 m1 m2 m3
  go_wp2_with fail
  go_region_held3 (fun W => W.cell? ⟨w.heap.size, 0, none⟩ = some (.int .u32 x0) ∧ W.cell? ⟨w.heap.size, 1, none⟩ = some (.int .u32 x1) ∧ W.cell? ⟨w.heap.size, 2, none⟩ = some (.int .u32 x2) ∧ W.cell? ⟨w.heap.size, 3, none⟩ = some (.int .u32 x3) ∧ W.cell? ⟨w.heap.size + 1, 0, none⟩ = some (.int .u32 y0) ∧ W.cell? ⟨w.heap.size + 1, 1, none⟩ = some (.int .u32 y1) ∧ W.cell? ⟨w.heap.size + 1, 2, none⟩ = some (.int .u32 y2) ∧ W.cell? ⟨w.heap.size + 1, 3, none⟩ = some (.int .u32 y3) ∧ W.cell? ⟨w1.heap.size, 0, none⟩ = some (.int .u32 0) ∧ W.cell? ⟨w1.heap.size, 1, none⟩ = some (.int .u32 0) ∧ W.cell? ⟨w1.heap.size, 2, none⟩ = some (.int .u32 0) ∧ W.cell? ⟨w1.heap.size, 3, none⟩ = some (.int .u32 0) ∧ W.cell? ⟨w2.heap.size, 0, none⟩ = some (.int .u32 0) ∧ W.cell? ⟨w2.heap.size, 1, none⟩ = some (.int .u32 0) ∧ W.cell? ⟨w2.heap.size, 2, none⟩ = some (.int .u32 0) ∧ W.cell? ⟨w2.heap.size, 3, none⟩ = some (.int .u32 0))
    (with_reducible exact all4 HK.out)
    (first
      | (go_at_call 10; with_reducible refine (awake_any _ (HT.out.oldn HK.out)).mono ?_; rintro e w' ⟨rfl, hb⟩; replace HK := Lib.hid (HK.out.after hb); clear hb)
      | (go_at_call 20; with_reducible refine (C3.out _ ).mono ?_; rintro e w' ⟨rfl, hb⟩; replace HK := Lib.hid (HK.out.after hb); clear hb)
      | (go_at_call 22; with_reducible refine (C4.out _ ).mono ?_; rintro e w' ⟨rfl, hb⟩; replace HK := Lib.hid (HK.out.after hb); clear hb)
      | (go_at_call 20; with_reducible refine (C5.out _ ).mono ?_; rintro e w' ⟨rfl, hb⟩; replace HK := Lib.hid (HK.out.after hb); clear hb))
  all_goals
    go_wp2_with fail
    go_ret
    exact ⟨rfl, HK.out.be.plain⟩
set_option maxRecDepth 100000 in
set_option maxHeartbeats 4000000 in
theorem walk_long {x0 x1 x2 x3 y0 y1 y2 y3 : Int} {A : Option Addr} {n cap : Nat} (hn : 40 < n) (hn' : n ≤ 9223372036854775807) (w : World) (ht : Tabs w) :
    Calls Tryd.prog 6 #[ag [x0, x1, x2, x3], ag [y0, y1, y2, y3], .slice A n cap] w fun e w' => e = .returned (.bool true) ∧ Below w.heap.size w w' := by
  rw [ag4, ag4]
  have HT := Lib.hid ht
  have HK := Lib.hid (((Kx.nil none w).add (w.heap.size) (by simp) (.cells #[.int .u32 x0, .int .u32 x1, .int .u32 x2, .int .u32 x3] 24 (0, 0))).add (w.heap.size + 1) (by simp) (.cells #[.int .u32 y0, .int .u32 y1, .int .u32 y2, .int .u32 y3] 24 (0, 0)))
  have i0 : (40 : Int) < (n : Int) := by omega
  clear ht
  go_enter Tryd.func6, Tryd.ntmps6
  go_wp2_with fail
  refine (awake_any _ (HT.out.oldn HK.out)).mono ?_
  rintro e w1 ⟨rfl, hb⟩
  replace HK := Lib.hid (HK.out.after hb)
  clear hb
  go_wp2_with fail
  go_ret
  exact ⟨rfl, HK.out.be.plain⟩
theorem walk {x0 x1 x2 x3 y0 y1 y2 y3 : Int} {A : Option Addr} {n cap : Nat} {l : Dl} (o0 : Ok4 [x0, x1, x2, x3]) (o1 : Ok4 [y0, y1, y2, y3]) (hl : l.length = n) (hc : n ≤ cap) (hm : cap ≤ maxLen) (w : World) (hd : Dd w A l) (ht : Tabs w) :
    Calls Tryd.prog 6 #[ag [x0, x1, x2, x3], ag [y0, y1, y2, y3], .slice A n cap] w fun e w' => e = .returned (.bool true) ∧ Below w.heap.size w w' := by
  unfold maxLen at hm
  by_cases h : 40 < n
  · exact walk_long h (by omega) w ht
  · by_cases h35 : n = 35
    · exact walk_yes o0 o1 hl (by omega) hc (by omega) h35 w hd ht
    · exact walk_no o0 o1 hl (by omega) hc (by omega) h35 w hd ht

set_option maxRecDepth 100000 in
theorem contract (H : Type) (enc : TypeId × Value → H) (W : World) (base : Nat) (args : Array Value) (ds gs : List (DataW H)) (before : List MemPlace)
    (hval : ∀ (j : Nat) t v, Tryd.f6.params[j]? = some t → args[j]? = some v → Value.okWide Tryd.prog W .any base t v)
    (hW : DataW.Whole enc Tryd.prog Tryd.f6.params.toList Rows.onetimeReachesSpec.vars false W args.toList ds gs before) (hL : laidMetH Tryd.prog Rows.onetimeReachesRow.laid W) :
    Calls Tryd.prog 6 args W fun e W' => ∃ v, e = .returned v ∧ Rows.onetimeReachesSpec.post enc Tryd.prog Tryd.f6 false true false false W args v W' := by
  have hW' := hW
  obtain ⟨p, q, hA0, hV, rfl, hfz, hnd⟩ := hW
  have hA : DataW.TrodAll enc Tryd.prog W 0 (fun _ => true) true Tryd.f6.params.toList args.toList ds p := hA0
  rw [Tryd.params6] at hA hval
  obtain ⟨v0, vs0, d0, ds0, p0, q0, hargs, rfl, rfl, h0, r0⟩ := trodAll_cons hA
  obtain ⟨v1, vs1, d1, ds1, p1, q1, rfl, rfl, rfl, h1, r1⟩ := trodAll_cons r0
  obtain ⟨v2, vs2, d2, ds2, p2, q2, rfl, rfl, rfl, h2, r2⟩ := trodAll_cons r1
  obtain ⟨rfl, rfl, rfl⟩ := trodAll_nil r2
  obtain rfl : args = #[v0, v1, v2] := by cases args; simp_all
  obtain ⟨rfl, rfl⟩ := trodVars_none hV
  have lt0 : ∀ x ∈ p0, x.block < W.heap.size := by obtain ⟨m, hm⟩ := h0; exact DataW.trod_lt m _ _ _ hm
  obtain ⟨x00, x01, x02, x03, rfl, o0⟩ := open_dig (hval 0 24 v0 rfl rfl) h0
  have lt1 : ∀ x ∈ p1, x.block < W.heap.size := by obtain ⟨m, hm⟩ := h1; exact DataW.trod_lt m _ _ _ hm
  obtain ⟨x10, x11, x12, x13, rfl, o1⟩ := open_dig (hval 1 24 v1 rfl rfl) h1
  have lt2 : ∀ x ∈ p2, x.block < W.heap.size := by obtain ⟨m, hm⟩ := h2; exact DataW.trod_lt m _ _ _ hm
  obtain ⟨A2, n2, c2, l2, rfl, hl2, hc2, hm2, hd2⟩ := open_sl (hval 2 33 v2 rfl rfl) h2
  clear hA0
  refine (walk o0 o1 hl2 hc2 hm2 W hd2 (tabs_of hL)).mono fun e W' ⟨he, bel⟩ => ?_
  subst he
  exact ⟨_, rfl, _, _, _, [], _, [], hW', trodAll_mk1 (shut_bool Tryd.underlying4 _), (trodAll_cons_mk (Below.trod laidOut (by kernel_rfl) (of_decide_eq_true (by kernel_rfl)) h0 bel lt0) (trodAll_cons_mk (Below.trod laidOut (by kernel_rfl) (of_decide_eq_true (by kernel_rfl)) h1 bel lt1) (trodAll_cons_mk (Below.trod laidOut (by kernel_rfl) (of_decide_eq_true (by kernel_rfl)) h2 bel lt2) trodAll_mk0))), rfl, bel.frame _, fun h => by cases h⟩

theorem laid_met (os : Os) : laidMet Tryd.prog Rows.onetimeReachesRow.laid ((laidWorld os).forCall (fun _ _ => 0) ⟨#[], #[.agg #[.int .u32 0, .int .u32 0, .int .u32 0, .int .u32 0], .agg #[.int .u32 0, .int .u32 0, .int .u32 0, .int .u32 0], .slice none 0 0], []⟩).memory :=
  laidMet_of_run' 8 (by kernel_rfl) (by kernel_rfl)
theorem reads (os : Os) {H : Type} (enc : TypeId × Value → H) : ∃ places, DataW.whole enc Tryd.prog ((laidWorld os).forCall (fun _ _ => 0) ⟨#[], #[.agg #[.int .u32 0, .int .u32 0, .int .u32 0, .int .u32 0], .agg #[.int .u32 0, .int .u32 0, .int .u32 0, .int .u32 0], .slice none 0 0], []⟩).memory Tryd.f6.params.toList Rows.onetimeReachesSpec.vars false (#[.agg #[.int .u32 0, .int .u32 0, .int .u32 0, .int .u32 0], .agg #[.int .u32 0, .int .u32 0, .int .u32 0, .int .u32 0], .slice none 0 0] : Array Value).toList 8 = some ([.agg [.lit (.int .u32 0), .lit (.int .u32 0), .lit (.int .u32 0), .lit (.int .u32 0)], .agg [.lit (.int .u32 0), .lit (.int .u32 0), .lit (.int .u32 0), .lit (.int .u32 0)], .nil], [], places) :=
  ⟨[], by kernel_rfl⟩

set_option maxRecDepth 100000 in
theorem lifted (os : Os) (started : os.Started) (H : Type) (enc : TypeId × Value → H) (F : Stop.Interp) :
    ReturnsInHanded {} Tryd.checked os 6 .any ((OpenSpec.ofChange Rows.onetimeReachesSpec).preRow enc Tryd.prog Tryd.f6 Rows.onetimeReachesRow.domain false Rows.onetimeReachesRow.laid) (((OpenSpec.ofChange Rows.onetimeReachesSpec).at F).post enc Tryd.prog Tryd.f6 false true false false) := by
  obtain ⟨places, hx⟩ := reads os enc
  refine returnsInHanded_of_row (C := Tryd.checked) (s := OpenSpec.ofChange Rows.onetimeReachesSpec) own started (by kernel_rfl) Tryd.func6
    (witness_row_at (enc := enc) (C := Tryd.checked) false (laidWorld os) #[.agg #[.int .u32 0, .int .u32 0, .int .u32 0, .int .u32 0], .agg #[.int .u32 0, .int .u32 0, .int .u32 0, .int .u32 0], .slice none 0 0] rfl (by kernel_rfl) (by kernel_rfl) (by kernel_rfl)
      (OpenSpec.preRow_of_cond 8 hx (by kernel_rfl) (fun k hk => by cases hk) (by kernel_rfl) (laid_met os))) ?_
  intro W base args ds gs before hval hW _ _ _ hL _ _
  exact contract H enc W base args ds gs before hval hW hL

theorem said : Rows.OnetimeReachesSaid :=
  OpenClaim.holds_of_cond 6 Tryd.f6 rfl rfl rfl rfl rfl rfl rfl ⟨rfl, rfl, rfl, rfl, rfl⟩ rfl rfl rfl rfl rfl (by kernel_rfl) Tryd.func6 (by kernel_rfl)
    (of_decide_eq_true (by kernel_rfl)) (by unfold Func.isWrapper; first | (rw [if_pos (by decide +kernel)]; kernel_rfl) | (rw [if_neg (by decide +kernel)]; exact ⟨rfl, rfl⟩))
    (fun os started H enc _ F => by rw [OpenClaim.pre_eq_preRow]; exact lifted os started H enc F)

theorem plain (f : FuncId) (fn : Func) (hf : Tryd.pinned.checked.prog.funcNamed "seedcorn/seedcornlaw05.OnetimeReaches" = some f) (hfn : Tryd.pinned.checked.prog.funcs[f]? = some fn) :
    false = Tryd.pinned.checked.prog.looks [] ∧ ∀ (j : Nat) t, fn.params[j]? = some t → Tryd.pinned.checked.prog.wantsStandIn t = false := by
  obtain rfl : f = 6 := Option.some.inj ((show Tryd.prog.funcNamed "seedcorn/seedcornlaw05.OnetimeReaches" = some 6 by kernel_rfl).symm.trans hf) |>.symm
  obtain rfl : fn = Tryd.f6 := (Option.some.inj (Tryd.func6.symm.trans hfn)).symm
  refine ⟨by kernel_rfl, fun j t ht => ?_⟩
  rw [Tryd.params6] at ht
  have hm := Array.mem_of_getElem? ht
  have hm' : t = 24 ∨ t = 33 := by simpa using hm
  rcases hm' with rfl | rfl
  · exact (show Tryd.prog.wantsStandIn 24 = false by kernel_rfl)
  · exact (show Tryd.prog.wantsStandIn 33 = false by kernel_rfl)

/-- The card. -/
theorem card : Rows.OnetimeReachesCardSaid :=
  Claim7.holds_tied_plain_at .later [] _ _ _ _ said (fun _ h => by cases h) (by kernel_rfl) (fun _ h => by cases h) onetimeReaches_row_tie rfl ⟨rfl, rfl⟩ (by kernel_rfl) rfl plain (by kernel_rfl)
end Go.Proofs.YtnobnnbckehikaaDoor.onetimeReaches
