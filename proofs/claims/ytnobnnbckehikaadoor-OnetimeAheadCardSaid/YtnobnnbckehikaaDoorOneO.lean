/- What two signatures give away: the contract of the reference's Ahead. -/
import Derived.Test.YtnobnnbckehikaaDoorOneN
set_option linter.unusedVariables false
namespace Go.Proofs.YtnobnnbckehikaaDoor
open Go.RowKit

set_option maxRecDepth 100000 in
set_option maxHeartbeats 2000000 in
theorem aheadr_no {A B : Option Addr} {n m cap cp : Nat} (msg other : Ws) (w : World) (hm : Ok4 msg) (ho : Ok4 other) (hn : n ≠ 35 ∨ m ≠ 35) (hn' : n ≤ 9223372036854775807) (hm' : m ≤ 9223372036854775807) :
    Calls Tryd.prog 25 #[ag msg, .slice A n cap, ag other, .slice B m cp] w fun e w' => e = .returned (.tuple #[.int .i64 0, .agg #[.int .u32 0, .int .u32 0, .int .u32 0, .int .u32 0], .bool false]) ∧ Below w.heap.size w w' := by
  obtain ⟨x0, x1, x2, x3, ex, _⟩ := ok4 hm
  obtain ⟨y0, y1, y2, y3, ey, _⟩ := ok4 ho
  rw [ex, ey, ag4, ag4]
  have HK := Lib.hid (Ka.new w x0 x1 x2 x3 y0 y1 y2 y3)
  clear ex ey hm ho
  by_cases h : n = 35
  · subst h
    have i0 : ((m : Int) != 35) = true := by rw [bne_iff_ne]; omega
    go_enter Tryd.func25, Tryd.ntmps25
    go_wp2_with fail
    exact bodyPost_ret (v := .tuple #[.int .i64 0, .agg #[.int .u32 0, .int .u32 0, .int .u32 0, .int .u32 0], .bool false]) (by
      obtain ⟨k0, k1, k2, k3, _⟩ := cells4 (HK.out.at 2 rfl)
      simp [results, go_sem, k0, k1, k2, k3]) rfl ⟨rfl, HK.out.be.plain⟩
  · have i0 : ((n : Int) != 35) = true := by rw [bne_iff_ne]; omega
    go_enter Tryd.func25, Tryd.ntmps25
    go_wp2_with fail
    exact bodyPost_ret (v := .tuple #[.int .i64 0, .agg #[.int .u32 0, .int .u32 0, .int .u32 0, .int .u32 0], .bool false]) (by
      obtain ⟨k0, k1, k2, k3, _⟩ := cells4 (HK.out.at 2 rfl)
      simp [results, go_sem, k0, k1, k2, k3]) rfl ⟨rfl, HK.out.be.plain⟩
theorem steps_refx (m : Ws) (w : World) (hm : Ok4 m) :
    Calls Tryd.prog 13 #[ag m] w fun e w' => ∃ g cap, e = .returned (.slice (some ⟨g, 0, none⟩) 35 cap) ∧ 35 ≤ cap ∧ cap ≤ maxLen ∧ IRow w' g (nms m) ∧ w.heap.size ≤ g ∧ Below w.heap.size w w' := steps_ref m w hm
theorem Ka.drew1 {w W : World} {x y : Ws} (h : Ka w W x y) : Ka w W.drew x y := Kx.drew h
theorem eight {w W : World} {x0 x1 x2 x3 y0 y1 y2 y3 : Int} (h : Ka w W [x0, x1, x2, x3] [y0, y1, y2, y3]) : W.cell? ⟨w.heap.size, 0, none⟩ = some (.int .u32 x0) ∧ W.cell? ⟨w.heap.size, 1, none⟩ = some (.int .u32 x1) ∧ W.cell? ⟨w.heap.size, 2, none⟩ = some (.int .u32 x2) ∧ W.cell? ⟨w.heap.size, 3, none⟩ = some (.int .u32 x3) ∧ W.cell? ⟨w.heap.size + 1, 0, none⟩ = some (.int .u32 y0) ∧ W.cell? ⟨w.heap.size + 1, 1, none⟩ = some (.int .u32 y1) ∧ W.cell? ⟨w.heap.size + 1, 2, none⟩ = some (.int .u32 y2) ∧ W.cell? ⟨w.heap.size + 1, 3, none⟩ = some (.int .u32 y3) := by
  obtain ⟨a0, a1, a2, a3, _⟩ := cells4 (h.at 0 rfl)
  obtain ⟨b0, b1, b2, b3, _⟩ := cells4 (h.at 1 rfl)
  exact ⟨a0, a1, a2, a3, b0, b1, b2, b3⟩
theorem ten {w W : World} {x y : Ws} {g1 g2 j d1 d2 bs os bt ot : Nat} {l1 l : List Nat} {s t : Dl} {s0 s1 s2 s3 t0 t1 t2 t3 : Int} (hk : Ka w W x y) (hi1 : IRow W g1 l1) (hj1 : j < l1.length) (hd1 : l1.getD j 0 = d1) (hi : IRow W g2 l) (hj : j < l.length) (hd : l.getD j 0 = d2) (rs : DRow w bs os s) (gs : s[j]? = some [s0, s1, s2, s3]) (rt : DRow w bt ot t) (gt : t[j]? = some [t0, t1, t2, t3]) :
    W.cell? ⟨g1, j, none⟩ = some (.int .i64 (d1 : Int)) ∧ W.cell? ⟨g2, j, none⟩ = some (.int .i64 (d2 : Int)) ∧ W.cell? ⟨bt, ot + j * 4, none⟩ = some (.int .u32 t0) ∧ W.cell? ⟨bt, ot + j * 4 + 1, none⟩ = some (.int .u32 t1) ∧ W.cell? ⟨bt, ot + j * 4 + 2, none⟩ = some (.int .u32 t2) ∧ W.cell? ⟨bt, ot + j * 4 + 3, none⟩ = some (.int .u32 t3) ∧ W.cell? ⟨bs, os + j * 4, none⟩ = some (.int .u32 s0) ∧ W.cell? ⟨bs, os + j * 4 + 1, none⟩ = some (.int .u32 s1) ∧ W.cell? ⟨bs, os + j * 4 + 2, none⟩ = some (.int .u32 s2) ∧ W.cell? ⟨bs, os + j * 4 + 3, none⟩ = some (.int .u32 s3) := by
  have h1 := hi1.at_ j hj1
  rw [hd1] at h1
  exact ⟨h1, nine hk hi hj hd rs gs rt gt⟩
set_option maxRecDepth 100000 in
set_option maxHeartbeats 4000000 in
theorem aheadr_row {bs os cs bt ot ct : Nat} {s t : Dl} (msg other : Ws) (w : World) (hm : Ok4 msg) (ho : Ok4 other) (hs : s.length = 35) (ht35 : t.length = 35) (hcs : 35 ≤ cs) (hct : 35 ≤ ct) (rs : DRow w bs os s) (rt : DRow w bt ot t) :
    Calls Tryd.prog 25 #[ag msg, .slice (some ⟨bs, os, none⟩) 35 cs, ag other, .slice (some ⟨bt, ot, none⟩) 35 ct] w fun e w' => e = .returned (ahv msg other s t) ∧ Below w.heap.size w w' := by
  have c1 := fun w => steps_refx msg w hm
  have c2 := fun w => steps_refx other w ho
  have HN1 := Lib.hid (nms_get msg)
  have HNL1 := Lib.hid (nms_length hm)
  have HN2 := Lib.hid (nms_get other)
  have HNL2 := Lib.hid (nms_length ho)
  have RS := Lib.hid rs
  have RT := Lib.hid rt
  have LS := Lib.hid hs
  have LT := Lib.hid ht35
  have h1 := rs.lt
  have h2 := rt.lt
  have q4 := eq4s
  obtain ⟨f, hf⟩ : ∃ f, ahv msg other s t = f := ⟨_, rfl⟩
  rw [hf]
  have HF := Lib.hid hf
  obtain ⟨x0, x1, x2, x3, ex, _⟩ := ok4 hm
  obtain ⟨y0, y1, y2, y3, ey, _⟩ := ok4 ho
  rw [show ag msg = .agg #[.int .u32 x0, .int .u32 x1, .int .u32 x2, .int .u32 x3] by rw [ex, ag4]] at c1 ⊢
  rw [show ag other = .agg #[.int .u32 y0, .int .u32 y1, .int .u32 y2, .int .u32 y3] by rw [ey, ag4]] at c2 ⊢
  have C1 := Lib.hid c1
  have C2 := Lib.hid c2
  have HK := Lib.hid (Ka.new w x0 x1 x2 x3 y0 y1 y2 y3)
  clear c1 c2 ex ey hm ho hs ht35 rs rt hf
  go_enter Tryd.func25, Tryd.ntmps25
  go_wp2_with fail
  replace HK := Lib.hid HK.out.drew1
  go_region_held3 (fun W => W.cell? ⟨w.heap.size, 0, none⟩ = some (.int .u32 x0) ∧ W.cell? ⟨w.heap.size, 1, none⟩ = some (.int .u32 x1) ∧ W.cell? ⟨w.heap.size, 2, none⟩ = some (.int .u32 x2) ∧ W.cell? ⟨w.heap.size, 3, none⟩ = some (.int .u32 x3) ∧ W.cell? ⟨w.heap.size + 1, 0, none⟩ = some (.int .u32 y0) ∧ W.cell? ⟨w.heap.size + 1, 1, none⟩ = some (.int .u32 y1) ∧ W.cell? ⟨w.heap.size + 1, 2, none⟩ = some (.int .u32 y2) ∧ W.cell? ⟨w.heap.size + 1, 3, none⟩ = some (.int .u32 y3))
    (with_reducible exact eight HK.out)
    (first
      | (go_at_call 13; with_reducible refine (C1.out _).mono ?_; rintro e w1 ⟨g1, c1, rfl, _, _, hir, _, hb⟩; have HI1 := Lib.hid hir; replace HK := Lib.hid (HK.out.after hb); clear hb hir)
      | (go_at_call 13; with_reducible refine (C2.out _).mono ?_; rintro e w2 ⟨g2, c2, rfl, _, _, hir, _, hb⟩; have HI2 := Lib.hid hir; replace HK := Lib.hid (HK.out.after hb); replace HI1 := Lib.hid (HI1.out.kept hb); clear hb hir))
  go_wp2_with fail
  go_loopw [13] (fun v wr => ∃ j : Nat, j ≤ 35 ∧ v = .int .i64 (j : Int) ∧ Hid (∀ i, i < j → hit msg other s t i = false) ∧ Hid (Ka w wr [x0, x1, x2, x3] [y0, y1, y2, y3]) ∧ Hid (IRow wr g1 (nms msg)) ∧ Hid (IRow wr g2 (nms other))) (fun v _ => 35 - (intOf v).toNat)
  case atStart => exact ⟨0, Nat.zero_le _, rfl, Lib.hid (fun i hi => by omega), HK, HI1, HI2⟩
  case round =>
    obtain ⟨j, hj, rfl, HH, HK, HI1, HI2⟩ := hrel
    by_cases hlt : j < 35
    · have i0 : (0 : Int) ≤ (j : Int) := by omega
      have i1 : (j : Int) < 35 := by omega
      have hgs := List.getElem?_eq_getElem (l := s) (i := j) (by rw [LS.out]; exact hlt)
      have hgt := List.getElem?_eq_getElem (l := t) (i := j) (by rw [LT.out]; exact hlt)
      have obs := RS.out.ok _ (List.getElem_mem (l := s) (n := j) (by rw [LS.out]; exact hlt))
      have obt := RT.out.ok _ (List.getElem_mem (l := t) (n := j) (by rw [LT.out]; exact hlt))
      obtain ⟨s0, s1, s2, s3, es, _⟩ := ok4 obs
      obtain ⟨t0, t1, t2, t3, et, _⟩ := ok4 obt
      rw [es] at hgs obs
      rw [et] at hgt obt
      have hsd : s.getD j [] = [s0, s1, s2, s3] := by rw [List.getD_eq_getElem?_getD, hgs]; rfl
      have htd : t.getD j [] = [t0, t1, t2, t3] := by rw [List.getD_eq_getElem?_getD, hgt]; rfl
      have hd1 := HN1.out j
      have hd2 := HN2.out j
      have hc1 := HI1.out.at_ j (by rw [HNL1.out]; exact hlt)
      have hc2 := HI2.out.at_ j (by rw [HNL2.out]; exact hlt)
      have k0 := @hit_low msg other s t j
      have k1 := @hit_off msg other s t j
      have k2 := @hit_on msg other s t j
      rw [htd, hsd] at k1 k2
      obtain ⟨d1, ed1⟩ : ∃ d, (nms msg).getD j 0 = d := ⟨_, rfl⟩
      obtain ⟨d2, ed2⟩ : ∃ d, (nms other).getD j 0 = d := ⟨_, rfl⟩
      rw [ed1] at hd1 hc1
      rw [ed2] at hd2 hc2
      rw [ed1, ed2] at k0 k1 k2
      have GS := Lib.hid hgs
      have GT := Lib.hid hgt
      by_cases hlow : d2 < d1
      · have hz : (d1 : Int) - (d2 : Int) = ((d1 - d2 : Nat) : Int) := by omega
        have ow := wk_ok obt (d1 - d2)
        obtain ⟨z0, z1, z2, z3, ew, _⟩ := ok4 ow
        rw [ew] at k1 k2
        have cw := fun W => walk_ref [t0, t1, t2, t3] (d1 - d2) W obt (by omega)
        rw [ew, ag4, ag4, ← hz] at cw
        have CW := Lib.hid cw
        have HED1 := Lib.hid ed1
        have HJ1 : Hid (j < (nms msg).length) := Lib.hid (by rw [HNL1.out]; exact hlt)
        have HED := Lib.hid ed2
        have HJ2 : Hid (j < (nms other).length) := Lib.hid (by rw [HNL2.out]; exact hlt)
        have jw : IntKind.i64.wrap ((d1 : Int) - (d2 : Int)) = (d1 : Int) - (d2 : Int) := by rw [IntKind.wrap_i64]; omega
        have jl : decide ((d2 : Int) < (d1 : Int)) = true := by rw [decide_eq_true_iff]; omega
        have jl2 : (d2 : Int) < (d1 : Int) := by omega
        replace HK : Hid (Ka w wr.drew [x0, x1, x2, x3] [y0, y1, y2, y3]) := Lib.hid HK.out.drew
        replace HI1 := Lib.hid HI1.out.drew
        replace HI2 := Lib.hid HI2.out.drew
        by_cases hq : [z0, z1, z2, z3] = [s0, s1, s2, s3]
        · have HIT := Lib.hid (k2 hlow hq)
          have hsm : same [z0, z1, z2, z3] [s0, s1, s2, s3] = true := by rw [hq]; exact same_self _
          have HTD := Lib.hid htd
          clear k0 k1 k2 es et ed1 ed2 hgs hgt obs obt hsd htd hz ow ew cw hq
          go_wp2_with fail
          clear hc1 hc2
          go_region_held3 (fun W => W.cell? ⟨g1, j, none⟩ = some (.int .i64 (d1 : Int)) ∧ W.cell? ⟨g2, j, none⟩ = some (.int .i64 (d2 : Int)) ∧ W.cell? ⟨bt, ot + j * 4, none⟩ = some (.int .u32 t0) ∧ W.cell? ⟨bt, ot + j * 4 + 1, none⟩ = some (.int .u32 t1) ∧ W.cell? ⟨bt, ot + j * 4 + 2, none⟩ = some (.int .u32 t2) ∧ W.cell? ⟨bt, ot + j * 4 + 3, none⟩ = some (.int .u32 t3) ∧ W.cell? ⟨bs, os + j * 4, none⟩ = some (.int .u32 s0) ∧ W.cell? ⟨bs, os + j * 4 + 1, none⟩ = some (.int .u32 s1) ∧ W.cell? ⟨bs, os + j * 4 + 2, none⟩ = some (.int .u32 s2) ∧ W.cell? ⟨bs, os + j * 4 + 3, none⟩ = some (.int .u32 s3))
            (with_reducible exact ten HK.out HI1.out HJ1.out HED1.out HI2.out HJ2.out HED.out RS.out GS.out RT.out GT.out)
            (first
              | (go_at_call 24; with_reducible refine (CW.out _).mono ?_; rintro e w4 ⟨rfl, hb⟩; replace HK := Lib.hid (HK.out.after hb); replace HI1 := Lib.hid (HI1.out.kept hb); replace HI2 := Lib.hid (HI2.out.kept hb); clear hb))
          all_goals
            obtain ⟨_, v0, v1, v2, v3, _⟩ := nine HK.out HI2.out HJ2.out HED.out RS.out GS.out RT.out GT.out
            obtain ⟨b0, b1, b2, b3, e0, e1, e2, e3⟩ := cells4 (HK.out.at 2 rfl)
            have HRR := Lib.hid (row4 (HK.out.at 2 rfl) (.int .u32 t0) (.int .u32 t1) (.int .u32 t2) (.int .u32 t3))
            have HEE := Lib.hid (HK.out.put4 2 rfl (.inr (by omega)) (.int .u32 t0) (.int .u32 t1) (.int .u32 t2) (.int .u32 t3)).drew.be.plain
            have HF2 : Hid (f = .tuple #[.int .i64 (j : Int), .agg #[.int .u32 t0, .int .u32 t1, .int .u32 t2, .int .u32 t3], .bool true]) := Lib.hid (HF.out.symm.trans (ahv_some (ahd_some hlt HH.out HIT.out) HTD.out))
            go_wp2_with fail
            go_region
            all_goals
              go_wp2_with fail
              exact bodyPost_ret (v := .tuple #[.int .i64 (j : Int), .agg #[.int .u32 t0, .int .u32 t1, .int .u32 t2, .int .u32 t3], .bool true]) (by
                obtain ⟨k0, k1, k2, k3, _⟩ := cells4 HRR.out
                simp [results, go_sem, k0, k1, k2, k3]) rfl ⟨by rw [HF2.out], HEE.out⟩
        · have HHN := Lib.hid (k1 hq)
          have hsm : same [z0, z1, z2, z3] [s0, s1, s2, s3] = false := same_no hq
          clear k0 k1 k2 es et ed1 ed2 hgs hgt obs obt hsd htd hz ow ew cw hq
          have HH2 : Hid (∀ i, i < j + 1 → hit msg other s t i = false) := Lib.hid (fun i hi => by
            rcases Nat.lt_or_ge i j with h | h
            · exact HH.out i h
            · obtain rfl : i = j := by omega
              exact HHN.out)
          go_wp2_with fail
          clear hc1 hc2
          go_region_held3 (fun W => W.cell? ⟨g1, j, none⟩ = some (.int .i64 (d1 : Int)) ∧ W.cell? ⟨g2, j, none⟩ = some (.int .i64 (d2 : Int)) ∧ W.cell? ⟨bt, ot + j * 4, none⟩ = some (.int .u32 t0) ∧ W.cell? ⟨bt, ot + j * 4 + 1, none⟩ = some (.int .u32 t1) ∧ W.cell? ⟨bt, ot + j * 4 + 2, none⟩ = some (.int .u32 t2) ∧ W.cell? ⟨bt, ot + j * 4 + 3, none⟩ = some (.int .u32 t3) ∧ W.cell? ⟨bs, os + j * 4, none⟩ = some (.int .u32 s0) ∧ W.cell? ⟨bs, os + j * 4 + 1, none⟩ = some (.int .u32 s1) ∧ W.cell? ⟨bs, os + j * 4 + 2, none⟩ = some (.int .u32 s2) ∧ W.cell? ⟨bs, os + j * 4 + 3, none⟩ = some (.int .u32 s3))
            (with_reducible exact ten HK.out HI1.out HJ1.out HED1.out HI2.out HJ2.out HED.out RS.out GS.out RT.out GT.out)
            (first
              | (go_at_call 24; with_reducible refine (CW.out _).mono ?_; rintro e w4 ⟨rfl, hb⟩; replace HK := Lib.hid (HK.out.after hb); replace HI1 := Lib.hid (HI1.out.kept hb); replace HI2 := Lib.hid (HI2.out.kept hb); clear hb))
          all_goals
            go_wp2_with fail
            go_roundw
            case rel => exact ⟨j + 1, by omega, by go_num, HH2, HK, HI1, HI2⟩
            case measure => simp [intOf]; omega
      · have HHN := Lib.hid (k0 hlow)
        have jl : decide ((d2 : Int) < (d1 : Int)) = false := by rw [decide_eq_false_iff_not]; omega
        have jl2 : ¬ (d2 : Int) < (d1 : Int) := by omega
        clear k0 k1 k2 es et ed1 ed2 hgs hgt obs obt hsd htd
        go_wp2_with fail
        go_quiet (fail)
        go_wp2_with fail
        have HK2 : Hid (Ka w (wr.drewN nq) [x0, x1, x2, x3] [y0, y1, y2, y3]) := Lib.hid (HK.out.drewN nq)
        have HI12 := Lib.hid (HI1.out.drewN nq)
        have HI22 := Lib.hid (HI2.out.drewN nq)
        have HH2 : Hid (∀ i, i < j + 1 → hit msg other s t i = false) := Lib.hid (fun i hi => by
          rcases Nat.lt_or_ge i j with h | h
          · exact HH.out i h
          · obtain rfl : i = j := by omega
            exact HHN.out)
        go_roundw
        case rel => exact ⟨j + 1, by omega, by go_num, HH2, HK2, HI12, HI22⟩
        case measure => simp [intOf]; omega
    · obtain rfl : j = 35 := by omega
      have HF2 : Hid (f = .tuple #[.int .i64 0, .agg #[.int .u32 0, .int .u32 0, .int .u32 0, .int .u32 0], .bool false]) := Lib.hid (by rw [← HF.out, ahv, ahd_none HH.out])
      obtain ⟨b0, b1, b2, b3, d0, d1, d2, d3⟩ := cells4 (HK.out.at 2 rfl)
      have HRR := Lib.hid (row4 (HK.out.at 2 rfl) (.int .u32 0) (.int .u32 0) (.int .u32 0) (.int .u32 0))
      have HEE := Lib.hid (HK.out.put4 2 rfl (.inr (by omega)) (.int .u32 0) (.int .u32 0) (.int .u32 0) (.int .u32 0)).be.plain
      go_wp2_with fail
      exact bodyPost_ret (v := .tuple #[.int .i64 0, .agg #[.int .u32 0, .int .u32 0, .int .u32 0, .int .u32 0], .bool false]) (by
        obtain ⟨k0, k1, k2, k3, _⟩ := cells4 HRR.out
        simp [results, go_sem, k0, k1, k2, k3]) rfl ⟨by rw [HF2.out], HEE.out⟩
end Go.Proofs.YtnobnnbckehikaaDoor
