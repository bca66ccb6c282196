/- The law DigestBack: for every two states it returns true, and both read as before. The tables that it reads hold what the program's text lays (the card ties them). No other condition. -/
import Derived.Test.YtaogndcaabnboaaDoorDigL
namespace Go.Proofs.YtaogndcaabnboaaDoor.digestBack
open Go.ChangeShapes Go.WideShapes Go.ChangeAt Go.RowKit
open Go.ChangeMaps (open_string shut_string)
set_option linter.unusedVariables false

theorem all8 {w W : World} {x0 x1 x2 x3 x4 x5 x6 x7 y0 y1 y2 y3 y4 y5 y6 y7 : Int} (h : Kq w W w.heap.size (w.heap.size + 1) (.cells #[.int .u32 x0, .int .u32 x1, .int .u32 x2, .int .u32 x3, .int .u32 x4, .int .u32 x5, .int .u32 x6, .int .u32 x7] 23 (0, 0)) (.cells #[.int .u32 y0, .int .u32 y1, .int .u32 y2, .int .u32 y3, .int .u32 y4, .int .u32 y5, .int .u32 y6, .int .u32 y7] 23 (0, 0))) : Kq w W w.heap.size (w.heap.size + 1) (.cells #[.int .u32 x0, .int .u32 x1, .int .u32 x2, .int .u32 x3, .int .u32 x4, .int .u32 x5, .int .u32 x6, .int .u32 x7] 23 (0, 0)) (.cells #[.int .u32 y0, .int .u32 y1, .int .u32 y2, .int .u32 y3, .int .u32 y4, .int .u32 y5, .int .u32 y6, .int .u32 y7] 23 (0, 0)) ∧ W.cell? ⟨w.heap.size, 0, none⟩ = some (.int .u32 x0) ∧ W.cell? ⟨w.heap.size, 1, none⟩ = some (.int .u32 x1) ∧ W.cell? ⟨w.heap.size, 2, none⟩ = some (.int .u32 x2) ∧ W.cell? ⟨w.heap.size, 3, none⟩ = some (.int .u32 x3) ∧ W.cell? ⟨w.heap.size, 4, none⟩ = some (.int .u32 x4) ∧ W.cell? ⟨w.heap.size, 5, none⟩ = some (.int .u32 x5) ∧ W.cell? ⟨w.heap.size, 6, none⟩ = some (.int .u32 x6) ∧ W.cell? ⟨w.heap.size, 7, none⟩ = some (.int .u32 x7) ∧ W.cell? ⟨w.heap.size + 1, 0, none⟩ = some (.int .u32 y0) ∧ W.cell? ⟨w.heap.size + 1, 1, none⟩ = some (.int .u32 y1) ∧ W.cell? ⟨w.heap.size + 1, 2, none⟩ = some (.int .u32 y2) ∧ W.cell? ⟨w.heap.size + 1, 3, none⟩ = some (.int .u32 y3) ∧ W.cell? ⟨w.heap.size + 1, 4, none⟩ = some (.int .u32 y4) ∧ W.cell? ⟨w.heap.size + 1, 5, none⟩ = some (.int .u32 y5) ∧ W.cell? ⟨w.heap.size + 1, 6, none⟩ = some (.int .u32 y6) ∧ W.cell? ⟨w.heap.size + 1, 7, none⟩ = some (.int .u32 y7) := by
  obtain ⟨a0, a1, a2, a3, a4, a5, a6, a7, _⟩ := cells8 h.hd
  obtain ⟨b0, b1, b2, b3, b4, b5, b6, b7, _⟩ := cells8 h.hs
  exact ⟨h, a0, a1, a2, a3, a4, a5, a6, a7, b0, b1, b2, b3, b4, b5, b6, b7⟩
set_option maxRecDepth 100000 in
set_option maxHeartbeats 2000000 in
theorem walk_same {x0 x1 x2 x3 x4 x5 x6 x7 : Int} (o0 : Ok8 [x0, x1, x2, x3, x4, x5, x6, x7]) (w : World) (ht : Tabs w) :
    Calls Tryd.prog 4 #[ag [x0, x1, x2, x3, x4, x5, x6, x7], ag [x0, x1, x2, x3, x4, x5, x6, x7]] w fun e w' => e = .returned (.bool true) ∧ Below w.heap.size w w' := by
  have hm := mix_ok o0
  have hu := unmix_ok o0
  have c1 := fun w ht => mix_code _ w o0 ht
  have c2 := fun w ht => unmix_code _ w hm ht
  have c3 := fun w ht => unmix_code _ w o0 ht
  have c4 := fun w ht => mix_code _ w hu ht
  rw [unmix_mix o0] at c2
  rw [mix_unmix o0] at c4
  obtain ⟨m0, m1, m2, m3, m4, m5, m6, m7, em, _⟩ := ok8 hm
  obtain ⟨u0, u1, u2, u3, u4, u5, u6, u7, eu, _⟩ := ok8 hu
  rw [em] at c1 c2
  rw [eu] at c3 c4
  rw [ag8, ag8] at c1 c2 c3 c4
  rw [ag8]
  have C1 := Lib.hid c1
  have C2 := Lib.hid c2
  have C3 := Lib.hid c3
  have C4 := Lib.hid c4
  have HT := Lib.hid ht
  have HK := Lib.hid (Kq.two w (.cells #[.int .u32 x0, .int .u32 x1, .int .u32 x2, .int .u32 x3, .int .u32 x4, .int .u32 x5, .int .u32 x6, .int .u32 x7] 23 (0, 0)) (.cells #[.int .u32 x0, .int .u32 x1, .int .u32 x2, .int .u32 x3, .int .u32 x4, .int .u32 x5, .int .u32 x6, .int .u32 x7] 23 (0, 0))).drew
  have q8 := eq8s
  have s0 := same_self
  clear c1 c2 c3 c4 ht hm hu em eu o0
  go_enter Tryd.func4, Tryd.ntmps4
  go_wp2_with fail
  go_region_held3 (fun W => Kq w W w.heap.size (w.heap.size + 1) (.cells #[.int .u32 x0, .int .u32 x1, .int .u32 x2, .int .u32 x3, .int .u32 x4, .int .u32 x5, .int .u32 x6, .int .u32 x7] 23 (0, 0)) (.cells #[.int .u32 x0, .int .u32 x1, .int .u32 x2, .int .u32 x3, .int .u32 x4, .int .u32 x5, .int .u32 x6, .int .u32 x7] 23 (0, 0)) ∧ W.cell? ⟨w.heap.size, 0, none⟩ = some (.int .u32 x0) ∧ W.cell? ⟨w.heap.size, 1, none⟩ = some (.int .u32 x1) ∧ W.cell? ⟨w.heap.size, 2, none⟩ = some (.int .u32 x2) ∧ W.cell? ⟨w.heap.size, 3, none⟩ = some (.int .u32 x3) ∧ W.cell? ⟨w.heap.size, 4, none⟩ = some (.int .u32 x4) ∧ W.cell? ⟨w.heap.size, 5, none⟩ = some (.int .u32 x5) ∧ W.cell? ⟨w.heap.size, 6, none⟩ = some (.int .u32 x6) ∧ W.cell? ⟨w.heap.size, 7, none⟩ = some (.int .u32 x7) ∧ W.cell? ⟨w.heap.size + 1, 0, none⟩ = some (.int .u32 x0) ∧ W.cell? ⟨w.heap.size + 1, 1, none⟩ = some (.int .u32 x1) ∧ W.cell? ⟨w.heap.size + 1, 2, none⟩ = some (.int .u32 x2) ∧ W.cell? ⟨w.heap.size + 1, 3, none⟩ = some (.int .u32 x3) ∧ W.cell? ⟨w.heap.size + 1, 4, none⟩ = some (.int .u32 x4) ∧ W.cell? ⟨w.heap.size + 1, 5, none⟩ = some (.int .u32 x5) ∧ W.cell? ⟨w.heap.size + 1, 6, none⟩ = some (.int .u32 x6) ∧ W.cell? ⟨w.heap.size + 1, 7, none⟩ = some (.int .u32 x7))
    (exact all8 HK.out)
    (first
      | (go_at_call 11; with_reducible refine (awake_any _ (HT.out.below HK.out.be)).mono ?_; rintro e w' ⟨rfl, hb⟩; replace HK := Lib.hid (HK.out.after hb); clear hb)
      | (go_at_call 12; with_reducible refine (C1.out _ (HT.out.below HK.out.be)).mono ?_; rintro e w' ⟨rfl, hb⟩; replace HK := Lib.hid (HK.out.after hb); clear hb)
      | (go_at_call 14; with_reducible refine (C2.out _ (HT.out.below HK.out.be)).mono ?_; rintro e w' ⟨rfl, hb⟩; replace HK := Lib.hid (HK.out.after hb); clear hb)
      | (go_at_call 14; with_reducible refine (C3.out _ (HT.out.below HK.out.be)).mono ?_; rintro e w' ⟨rfl, hb⟩; replace HK := Lib.hid (HK.out.after hb); clear hb)
      | (go_at_call 12; with_reducible refine (C4.out _ (HT.out.below HK.out.be)).mono ?_; rintro e w' ⟨rfl, hb⟩; replace HK := Lib.hid (HK.out.after hb); clear hb))
  all_goals
    go_wp2_with fail
    go_ret
    exact ⟨rfl, HK.out.be⟩
set_option maxRecDepth 100000 in
set_option maxHeartbeats 2000000 in
theorem walk_other {x0 x1 x2 x3 x4 x5 x6 x7 y0 y1 y2 y3 y4 y5 y6 y7 : Int} (o0 : Ok8 [x0, x1, x2, x3, x4, x5, x6, x7]) (o1 : Ok8 [y0, y1, y2, y3, y4, y5, y6, y7]) (w : World) (ht : Tabs w) (hne : ¬ [x0, x1, x2, x3, x4, x5, x6, x7] = [y0, y1, y2, y3, y4, y5, y6, y7]) :
    Calls Tryd.prog 4 #[ag [x0, x1, x2, x3, x4, x5, x6, x7], ag [y0, y1, y2, y3, y4, y5, y6, y7]] w fun e w' => e = .returned (.bool true) ∧ Below w.heap.size w w' := by
  have hm := mix_ok o0
  have hu := unmix_ok o0
  have c1 := fun w ht => mix_code _ w o0 ht
  have c2 := fun w ht => unmix_code _ w hm ht
  have c3 := fun w ht => unmix_code _ w o0 ht
  have c4 := fun w ht => mix_code _ w hu ht
  rw [unmix_mix o0] at c2
  rw [mix_unmix o0] at c4
  obtain ⟨m0, m1, m2, m3, m4, m5, m6, m7, em, _⟩ := ok8 hm
  obtain ⟨u0, u1, u2, u3, u4, u5, u6, u7, eu, _⟩ := ok8 hu
  rw [em] at c1 c2
  rw [eu] at c3 c4
  rw [ag8, ag8] at c1 c2 c3 c4
  have hn := mix_ok o1
  have c5 := fun w ht => mix_code _ w o1 ht
  have hmn : ¬ mix [x0, x1, x2, x3, x4, x5, x6, x7] = mix [y0, y1, y2, y3, y4, y5, y6, y7] := fun h => hne ((mix_inj o0 o1).1 h)
  obtain ⟨n0, n1, n2, n3, n4, n5, n6, n7, en, _⟩ := ok8 hn
  rw [en] at c5
  rw [em, en] at hmn
  rw [ag8, ag8] at c5
  have C5 := Lib.hid c5
  have s1 : same [x0, x1, x2, x3, x4, x5, x6, x7] [y0, y1, y2, y3, y4, y5, y6, y7] = false := same_no hne
  have s2 : same [m0, m1, m2, m3, m4, m5, m6, m7] [n0, n1, n2, n3, n4, n5, n6, n7] = false := same_no hmn
  rw [ag8]
  rw [ag8]
  have C1 := Lib.hid c1
  have C2 := Lib.hid c2
  have C3 := Lib.hid c3
  have C4 := Lib.hid c4
  have HT := Lib.hid ht
  have HK := Lib.hid (Kq.two w (.cells #[.int .u32 x0, .int .u32 x1, .int .u32 x2, .int .u32 x3, .int .u32 x4, .int .u32 x5, .int .u32 x6, .int .u32 x7] 23 (0, 0)) (.cells #[.int .u32 y0, .int .u32 y1, .int .u32 y2, .int .u32 y3, .int .u32 y4, .int .u32 y5, .int .u32 y6, .int .u32 y7] 23 (0, 0))).drew
  have q8 := eq8s
  have s0 := same_self
  clear c1 c2 c3 c4 ht hm hu em eu o0 o1 hn c5 hne hmn en
  go_enter Tryd.func4, Tryd.ntmps4
  go_wp2_with fail
  go_region_held3 (fun W => Kq w W w.heap.size (w.heap.size + 1) (.cells #[.int .u32 x0, .int .u32 x1, .int .u32 x2, .int .u32 x3, .int .u32 x4, .int .u32 x5, .int .u32 x6, .int .u32 x7] 23 (0, 0)) (.cells #[.int .u32 y0, .int .u32 y1, .int .u32 y2, .int .u32 y3, .int .u32 y4, .int .u32 y5, .int .u32 y6, .int .u32 y7] 23 (0, 0)) ∧ W.cell? ⟨w.heap.size, 0, none⟩ = some (.int .u32 x0) ∧ W.cell? ⟨w.heap.size, 1, none⟩ = some (.int .u32 x1) ∧ W.cell? ⟨w.heap.size, 2, none⟩ = some (.int .u32 x2) ∧ W.cell? ⟨w.heap.size, 3, none⟩ = some (.int .u32 x3) ∧ W.cell? ⟨w.heap.size, 4, none⟩ = some (.int .u32 x4) ∧ W.cell? ⟨w.heap.size, 5, none⟩ = some (.int .u32 x5) ∧ W.cell? ⟨w.heap.size, 6, none⟩ = some (.int .u32 x6) ∧ W.cell? ⟨w.heap.size, 7, none⟩ = some (.int .u32 x7) ∧ W.cell? ⟨w.heap.size + 1, 0, none⟩ = some (.int .u32 y0) ∧ W.cell? ⟨w.heap.size + 1, 1, none⟩ = some (.int .u32 y1) ∧ W.cell? ⟨w.heap.size + 1, 2, none⟩ = some (.int .u32 y2) ∧ W.cell? ⟨w.heap.size + 1, 3, none⟩ = some (.int .u32 y3) ∧ W.cell? ⟨w.heap.size + 1, 4, none⟩ = some (.int .u32 y4) ∧ W.cell? ⟨w.heap.size + 1, 5, none⟩ = some (.int .u32 y5) ∧ W.cell? ⟨w.heap.size + 1, 6, none⟩ = some (.int .u32 y6) ∧ W.cell? ⟨w.heap.size + 1, 7, none⟩ = some (.int .u32 y7))
    (exact all8 HK.out)
    (first
      | (go_at_call 11; with_reducible refine (awake_any _ (HT.out.below HK.out.be)).mono ?_; rintro e w' ⟨rfl, hb⟩; replace HK := Lib.hid (HK.out.after hb); clear hb)
      | (go_at_call 12; with_reducible refine (C1.out _ (HT.out.below HK.out.be)).mono ?_; rintro e w' ⟨rfl, hb⟩; replace HK := Lib.hid (HK.out.after hb); clear hb)
      | (go_at_call 14; with_reducible refine (C2.out _ (HT.out.below HK.out.be)).mono ?_; rintro e w' ⟨rfl, hb⟩; replace HK := Lib.hid (HK.out.after hb); clear hb)
      | (go_at_call 14; with_reducible refine (C3.out _ (HT.out.below HK.out.be)).mono ?_; rintro e w' ⟨rfl, hb⟩; replace HK := Lib.hid (HK.out.after hb); clear hb)
      | (go_at_call 12; with_reducible refine (C4.out _ (HT.out.below HK.out.be)).mono ?_; rintro e w' ⟨rfl, hb⟩; replace HK := Lib.hid (HK.out.after hb); clear hb)
      | (go_at_call 12; with_reducible refine (C5.out _ (HT.out.below HK.out.be)).mono ?_; rintro e w' ⟨rfl, hb⟩; replace HK := Lib.hid (HK.out.after hb); clear hb))
  all_goals
    go_wp2_with fail
    go_ret
    exact ⟨rfl, HK.out.be⟩
theorem walk (a0 : Ws) (o0 : Ok8 a0) (a1 : Ws) (o1 : Ok8 a1) (w : World) (ht : Tabs w) :
    Calls Tryd.prog 4 #[ag a0, ag a1] w fun e w' => e = .returned (.bool true) ∧ Below w.heap.size w w' := by
  by_cases h : a0 = a1
  · subst h
    obtain ⟨x0, x1, x2, x3, x4, x5, x6, x7, rfl, _⟩ := ok8 o0
    exact walk_same o0 w ht
  · obtain ⟨x0, x1, x2, x3, x4, x5, x6, x7, rfl, _⟩ := ok8 o0
    obtain ⟨y0, y1, y2, y3, y4, y5, y6, y7, rfl, _⟩ := ok8 o1
    exact walk_other o0 o1 w ht h

theorem contract (H : Type) (enc : TypeId × Value → H) (W : World) (base : Nat) (args : Array Value) (ds gs : List (DataW H)) (before : List MemPlace)
    (hval : ∀ (j : Nat) t v, Tryd.f4.params[j]? = some t → args[j]? = some v → Value.okWide Tryd.prog W .any base t v)
    (hW : DataW.Whole enc Tryd.prog Tryd.f4.params.toList Rows.digestBackSpec.vars false W args.toList ds gs before) (hL : laidMetH Tryd.prog Rows.digestBackRow.laid W) :
    Calls Tryd.prog 4 args W fun e W' => ∃ v, e = .returned v ∧ Rows.digestBackSpec.post enc Tryd.prog Tryd.f4 false true false false W args v W' := by
  have hW' := hW
  obtain ⟨p, q, hA0, hV, rfl, hfz, hnd⟩ := hW
  have hA : DataW.TrodAll enc Tryd.prog W 0 (fun _ => true) true Tryd.f4.params.toList args.toList ds p := hA0
  rw [Tryd.params4] at hA hval
  obtain ⟨v0, vs0, d0, ds0, p0, q0, hargs, rfl, rfl, h0, r0⟩ := trodAll_cons hA
  obtain ⟨v1, vs1, d1, ds1, p1, q1, rfl, rfl, rfl, h1, r1⟩ := trodAll_cons r0
  obtain ⟨rfl, rfl, rfl⟩ := trodAll_nil r1
  obtain rfl : args = #[v0, v1] := by cases args; simp_all
  obtain ⟨rfl, rfl⟩ := trodVars_none hV
  obtain ⟨x00, x01, x02, x03, x04, x05, x06, x07, rfl, rfl, rfl, w0, o0⟩ := open_a8 (hval 0 23 v0 rfl rfl) h0
  obtain ⟨x10, x11, x12, x13, x14, x15, x16, x17, rfl, rfl, rfl, w1, o1⟩ := open_a8 (hval 1 23 v1 rfl rfl) h1
  clear hA0
  simp only [List.append_nil] at hW'
  refine (walk _ o0 _ o1 W (tabs_of (l := Rows.digestBackRow.laid) hL (by first | exact .head _ | exact .tail _ (.head _) | exact .tail _ (.tail _ (.head _))) (by first | exact .head _ | exact .tail _ (.head _) | exact .tail _ (.tail _ (.head _))) (by first | exact .head _ | exact .tail _ (.head _) | exact .tail _ (.tail _ (.head _))))).mono fun e W' ⟨he, hg⟩ => ?_
  subst he
  exact ⟨_, rfl, _, _, _, [], [], [], hW', trodAll_mk1 (shut_bool Tryd.underlying4 _), (trodAll_cons_mk (shut_a8 w0) (trodAll_cons_mk (shut_a8 w1) trodAll_mk0)), rfl, hg.frame _, fun h => by cases h⟩

theorem laid_met (os : Os) : laidMet Tryd.prog Rows.digestBackRow.laid ((laidWorld os).forCall (fun _ _ => 0) ⟨#[], #[.agg #[.int .u32 0, .int .u32 0, .int .u32 0, .int .u32 0, .int .u32 0, .int .u32 0, .int .u32 0, .int .u32 0], .agg #[.int .u32 0, .int .u32 0, .int .u32 0, .int .u32 0, .int .u32 0, .int .u32 0, .int .u32 0, .int .u32 0]], []⟩).memory :=
  laidMet_of_run' 8 (by kernel_rfl) (by kernel_rfl)
theorem reads (os : Os) {H : Type} (enc : TypeId × Value → H) : ∃ places, DataW.whole enc Tryd.prog ((laidWorld os).forCall (fun _ _ => 0) ⟨#[], #[.agg #[.int .u32 0, .int .u32 0, .int .u32 0, .int .u32 0, .int .u32 0, .int .u32 0, .int .u32 0, .int .u32 0], .agg #[.int .u32 0, .int .u32 0, .int .u32 0, .int .u32 0, .int .u32 0, .int .u32 0, .int .u32 0, .int .u32 0]], []⟩).memory Tryd.f4.params.toList Rows.digestBackSpec.vars false (#[.agg #[.int .u32 0, .int .u32 0, .int .u32 0, .int .u32 0, .int .u32 0, .int .u32 0, .int .u32 0, .int .u32 0], .agg #[.int .u32 0, .int .u32 0, .int .u32 0, .int .u32 0, .int .u32 0, .int .u32 0, .int .u32 0, .int .u32 0]] : Array Value).toList 8 = some ([.agg [.lit (.int .u32 0), .lit (.int .u32 0), .lit (.int .u32 0), .lit (.int .u32 0), .lit (.int .u32 0), .lit (.int .u32 0), .lit (.int .u32 0), .lit (.int .u32 0)], .agg [.lit (.int .u32 0), .lit (.int .u32 0), .lit (.int .u32 0), .lit (.int .u32 0), .lit (.int .u32 0), .lit (.int .u32 0), .lit (.int .u32 0), .lit (.int .u32 0)]], [], places) :=
  ⟨[], by kernel_rfl⟩

set_option maxRecDepth 100000 in
theorem lifted (os : Os) (started : os.Started) (H : Type) (enc : TypeId × Value → H) (F : Stop.Interp) :
    ReturnsInHanded {} Tryd.checked os 4 .any ((OpenSpec.ofChange Rows.digestBackSpec).preRow enc Tryd.prog Tryd.f4 Rows.digestBackRow.domain false Rows.digestBackRow.laid) (((OpenSpec.ofChange Rows.digestBackSpec).at F).post enc Tryd.prog Tryd.f4 false true false false) := by
  obtain ⟨places, hx⟩ := reads os enc
  refine returnsInHanded_of_row (C := Tryd.checked) (s := OpenSpec.ofChange Rows.digestBackSpec) own started (by kernel_rfl) Tryd.func4
    (witness_row_at (enc := enc) (C := Tryd.checked) false (laidWorld os) #[.agg #[.int .u32 0, .int .u32 0, .int .u32 0, .int .u32 0, .int .u32 0, .int .u32 0, .int .u32 0, .int .u32 0], .agg #[.int .u32 0, .int .u32 0, .int .u32 0, .int .u32 0, .int .u32 0, .int .u32 0, .int .u32 0, .int .u32 0]] rfl (by kernel_rfl) (by kernel_rfl) (by kernel_rfl)
      (OpenSpec.preRow_of_cond 8 hx (by kernel_rfl) (fun k hk => by cases hk) (by kernel_rfl) (laid_met os))) ?_
  intro W base args ds gs before hval hW _ _ _ hL _ _
  exact contract H enc W base args ds gs before hval hW hL

theorem said : Rows.DigestBackSaid :=
  OpenClaim.holds_of_cond 4 Tryd.f4 rfl rfl rfl rfl rfl rfl rfl ⟨rfl, rfl, rfl, rfl, rfl⟩ rfl rfl rfl rfl rfl (by kernel_rfl) Tryd.func4 (by kernel_rfl)
    (of_decide_eq_true (by kernel_rfl)) (by unfold Func.isWrapper; first | (rw [if_pos (by decide +kernel)]; kernel_rfl) | (rw [if_neg (by decide +kernel)]; exact ⟨rfl, rfl⟩))
    (fun os started H enc _ F => by rw [OpenClaim.pre_eq_preRow]; exact lifted os started H enc F)

theorem plain (f : FuncId) (fn : Func) (hf : Tryd.pinned.checked.prog.funcNamed "seedcorn/seedcornlaw03.DigestBack" = some f) (hfn : Tryd.pinned.checked.prog.funcs[f]? = some fn) :
    false = Tryd.pinned.checked.prog.looks [] ∧ ∀ (j : Nat) t, fn.params[j]? = some t → Tryd.pinned.checked.prog.wantsStandIn t = false := by
  obtain rfl : f = 4 := Option.some.inj ((show Tryd.prog.funcNamed "seedcorn/seedcornlaw03.DigestBack" = some 4 by kernel_rfl).symm.trans hf) |>.symm
  obtain rfl : fn = Tryd.f4 := (Option.some.inj (Tryd.func4.symm.trans hfn)).symm
  refine ⟨by kernel_rfl, fun j t ht => ?_⟩
  rw [Tryd.params4] at ht
  have hm := Array.mem_of_getElem? ht
  obtain rfl : t = 23 := by simpa using hm
  exact (show Tryd.prog.wantsStandIn 23 = false by kernel_rfl)

/-- The card. -/
theorem card : Rows.DigestBackCardSaid :=
  Claim7.holds_tied_plain_at .later [] _ _ _ _ said (fun _ h => by cases h) (by kernel_rfl) (fun _ h => by cases h) digestBack_row_tie rfl ⟨rfl, rfl⟩ (by kernel_rfl) rfl plain (by kernel_rfl)
end Go.Proofs.YtaogndcaabnboaaDoor.digestBack
