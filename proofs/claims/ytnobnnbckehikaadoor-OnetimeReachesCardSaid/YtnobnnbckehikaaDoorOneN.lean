/- What two signatures give away: the contract of onetime's Ahead. -/
import Derived.Test.YtnobnnbckehikaaDoorOneL
import Derived.Deep.QuietTactic
import Derived.BigQuiet
import Derived.Deep.RegionHeld3
set_option linter.unusedVariables false
namespace Go.Proofs.YtnobnnbckehikaaDoor
open Go.RowKit

/-- What Ahead answers. -/
def ahv (a b : Ws) (s t : Dl) : Value :=
  match ahd a b s t with
  | some i => .tuple #[.int .i64 (i : Int), ag (t.getD i []), .bool true]
  | none => .tuple #[.int .i64 0, .agg #[.int .u32 0, .int .u32 0, .int .u32 0, .int .u32 0], .bool false]
theorem ahv_some {a b : Ws} {s t : Dl} {i : Nat} {t0 t1 t2 t3 : Int} (h : ahd a b s t = some i) (k : t.getD i [] = [t0, t1, t2, t3]) : ahv a b s t = .tuple #[.int .i64 (i : Int), .agg #[.int .u32 t0, .int .u32 t1, .int .u32 t2, .int .u32 t3], .bool true] := by
  unfold ahv
  rw [h]
  simp only [k, ag4]
/-- A closure that was just made, its world under a name. -/
theorem walk_new (x0 x1 x2 x3 : Int) (w : World) :
    Calls Tryd.prog 28 #[.agg #[.int .u32 x0, .int .u32 x1, .int .u32 x2, .int .u32 x3]] w fun e w' => e = .returned (.func (.func 35) #[] #[.pointer (some ⟨w.heap.size, 0, none⟩)]) ∧ w' = w.alloc (.cells #[.int .u32 x0, .int .u32 x1, .int .u32 x2, .int .u32 x3] 24) ∧ Below w.heap.size w w' := by
  refine (walk_made x0 x1 x2 x3 w).mono ?_
  rintro e w' ⟨rfl, rfl⟩
  exact ⟨rfl, rfl, (Below.refl _ _).alloc (Nat.le_refl _) _⟩
theorem step_from {x0 x1 x2 x3 y0 y1 y2 y3 z : Int} {n q : Nat} {W W1 : World} (hqs : W.heap.size = q) (h : W1 = W.alloc (.cells #[.int .u32 x0, .int .u32 x1, .int .u32 x2, .int .u32 x3] 24)) (hx : Ok4 [x0, x1, x2, x3]) (hz : z = (n : Int)) (hn : n ≤ 15) (hy : wk n [x0, x1, x2, x3] = [y0, y1, y2, y3]) (ht : Tabs W) :
    Calls Tryd.prog 35 #[.int .i64 z, .pointer (some ⟨q, 0, none⟩)] W1 fun e w' => e = .returned (.agg #[.int .u32 y0, .int .u32 y1, .int .u32 y2, .int .u32 y3]) ∧ Below W.heap.size W w' := by
  subst h hqs
  exact step_at W hx hz hn hy ht
/-- Messages and the room for the answer stand in a call's first blocks. -/
def Ka (w W : World) (x y : Ws) : Prop := Kx none w W [(w.heap.size, .cells (x.map (Value.int .u32)).toArray 24 (0, 0)), (w.heap.size + 1, .cells (y.map (Value.int .u32)).toArray 24 (0, 0)), (w.heap.size + 1 + 1, .cells #[.int .u32 0, .int .u32 0, .int .u32 0, .int .u32 0] 24 (0, 0))]
theorem Ka.after {w W W' : World} {x y : Ws} (h : Ka w W x y) (hb : Below W.heap.size W W') : Ka w W' x y := Kx.after h hb
theorem Ka.tabs {w W : World} {x y : Ws} (h : Ka w W x y) (ht : Tabs w) : Tabs W := ht.oldn h
theorem Ka.new (w : World) (x0 x1 x2 x3 y0 y1 y2 y3 : Int) : Ka w (((w.alloc (.cells #[.int .u32 x0, .int .u32 x1, .int .u32 x2, .int .u32 x3] 24)).alloc (.cells #[.int .u32 y0, .int .u32 y1, .int .u32 y2, .int .u32 y3] 24)).alloc (.cells #[.int .u32 0, .int .u32 0, .int .u32 0, .int .u32 0] 24)) [x0, x1, x2, x3] [y0, y1, y2, y3] :=
  (((Kx.nil none w).more (.cells #[.int .u32 x0, .int .u32 x1, .int .u32 x2, .int .u32 x3] 24 (0, 0))).add (w.heap.size + 1) (by simp) (.cells #[.int .u32 y0, .int .u32 y1, .int .u32 y2, .int .u32 y3] 24 (0, 0))).add (w.heap.size + 1 + 1) (by simp) (.cells #[.int .u32 0, .int .u32 0, .int .u32 0, .int .u32 0] 24 (0, 0))
theorem hit_low {a b : Ws} {s t : Dl} {i : Nat} (h : ¬ (nms b).getD i 0 < (nms a).getD i 0) : hit a b s t i = false := by
  unfold hit
  rw [decide_eq_false h, Bool.false_and]
theorem hit_off {a b : Ws} {s t : Dl} {i : Nat} (h : ¬ wk ((nms a).getD i 0 - (nms b).getD i 0) (t.getD i []) = s.getD i []) : hit a b s t i = false := by
  unfold hit
  rw [decide_eq_false h, Bool.and_false]
theorem hit_on {a b : Ws} {s t : Dl} {i : Nat} (h : (nms b).getD i 0 < (nms a).getD i 0) (k : wk ((nms a).getD i 0 - (nms b).getD i 0) (t.getD i []) = s.getD i []) : hit a b s t i = true := by
  unfold hit
  rw [decide_eq_true h, decide_eq_true k]; rfl
set_option maxRecDepth 100000 in
set_option maxHeartbeats 2000000 in
theorem ahead_no {A B : Option Addr} {n m cap cp : Nat} (msg other : Ws) (w : World) (hm : Ok4 msg) (ho : Ok4 other) (hn : n ≠ 35 ∨ m ≠ 35) (hn' : n ≤ 9223372036854775807) (hm' : m ≤ 9223372036854775807) :
    Calls Tryd.prog 23 #[ag msg, .slice A n cap, ag other, .slice B m cp] w fun e w' => e = .returned (.tuple #[.int .i64 0, .agg #[.int .u32 0, .int .u32 0, .int .u32 0, .int .u32 0], .bool false]) ∧ Below w.heap.size w w' := by
  obtain ⟨x0, x1, x2, x3, ex, _⟩ := ok4 hm
  obtain ⟨y0, y1, y2, y3, ey, _⟩ := ok4 ho
  rw [ex, ey, ag4, ag4]
  have HK := Lib.hid (Ka.new w x0 x1 x2 x3 y0 y1 y2 y3)
  clear ex ey hm ho
  by_cases h : n = 35
  · subst h
    have i0 : ((m : Int) != 35) = true := by rw [bne_iff_ne]; omega
    go_enter Tryd.func23, Tryd.ntmps23
    go_wp2_with fail
    exact bodyPost_ret (v := .tuple #[.int .i64 0, .agg #[.int .u32 0, .int .u32 0, .int .u32 0, .int .u32 0], .bool false]) (by
      obtain ⟨k0, k1, k2, k3, _⟩ := cells4 (HK.out.at 2 rfl)
      simp [results, go_sem, k0, k1, k2, k3]) rfl ⟨rfl, HK.out.be.plain⟩
  · have i0 : ((n : Int) != 35) = true := by rw [bne_iff_ne]; omega
    go_enter Tryd.func23, Tryd.ntmps23
    go_wp2_with fail
    exact bodyPost_ret (v := .tuple #[.int .i64 0, .agg #[.int .u32 0, .int .u32 0, .int .u32 0, .int .u32 0], .bool false]) (by
      obtain ⟨k0, k1, k2, k3, _⟩ := cells4 (HK.out.at 2 rfl)
      simp [results, go_sem, k0, k1, k2, k3]) rfl ⟨rfl, HK.out.be.plain⟩
theorem nine {w W : World} {x y : Ws} {g2 j d2 bs os bt ot : Nat} {l : List Nat} {s t : Dl} {s0 s1 s2 s3 t0 t1 t2 t3 : Int} (hk : Ka w W x y) (hi : IRow W g2 l) (hj : j < l.length) (hd : l.getD j 0 = d2) (rs : DRow w bs os s) (gs : s[j]? = some [s0, s1, s2, s3]) (rt : DRow w bt ot t) (gt : t[j]? = some [t0, t1, t2, t3]) :
    W.cell? ⟨g2, j, none⟩ = some (.int .i64 (d2 : Int)) ∧ W.cell? ⟨bt, ot + j * 4, none⟩ = some (.int .u32 t0) ∧ W.cell? ⟨bt, ot + j * 4 + 1, none⟩ = some (.int .u32 t1) ∧ W.cell? ⟨bt, ot + j * 4 + 2, none⟩ = some (.int .u32 t2) ∧ W.cell? ⟨bt, ot + j * 4 + 3, none⟩ = some (.int .u32 t3) ∧ W.cell? ⟨bs, os + j * 4, none⟩ = some (.int .u32 s0) ∧ W.cell? ⟨bs, os + j * 4 + 1, none⟩ = some (.int .u32 s1) ∧ W.cell? ⟨bs, os + j * 4 + 2, none⟩ = some (.int .u32 s2) ∧ W.cell? ⟨bs, os + j * 4 + 3, none⟩ = some (.int .u32 s3) := by
  have h1 := hi.at_ j hj
  rw [hd] at h1
  obtain ⟨a0, a1, a2, a3⟩ := (rt.oldn hk).four gt
  obtain ⟨b0, b1, b2, b3⟩ := (rs.oldn hk).four gs
  exact ⟨h1, a0, a1, a2, a3, b0, b1, b2, b3⟩
set_option maxRecDepth 100000 in
set_option maxHeartbeats 4000000 in
theorem ahead_row {bs os cs bt ot ct : Nat} {s t : Dl} (msg other : Ws) (w : World) (hm : Ok4 msg) (ho : Ok4 other) (hs : s.length = 35) (ht35 : t.length = 35) (hcs : 35 ≤ cs) (hct : 35 ≤ ct) (rs : DRow w bs os s) (rt : DRow w bt ot t) (ht : Tabs w) :
    Calls Tryd.prog 23 #[ag msg, .slice (some ⟨bs, os, none⟩) 35 cs, ag other, .slice (some ⟨bt, ot, none⟩) 35 ct] w fun e w' => e = .returned (ahv msg other s t) ∧ Below w.heap.size w w' := by
  have c1 := fun w => steps_code msg w hm
  have c2 := fun w => steps_code other w ho
  have HN1 := Lib.hid (nms_get msg)
  have HNL1 := Lib.hid (nms_length hm)
  have HN2 := Lib.hid (nms_get other)
  have HNL2 := Lib.hid (nms_length ho)
  have RS := Lib.hid rs
  have RT := Lib.hid rt
  have LS := Lib.hid hs
  have LT := Lib.hid ht35
  have HT := Lib.hid ht
  have h1 := rs.lt
  have h2 := rt.lt
  have q4 := eq4s
  obtain ⟨f, hf⟩ : ∃ f, ahv msg other s t = f := ⟨_, rfl⟩
  rw [hf]
  have HF := Lib.hid hf
  obtain ⟨x0, x1, x2, x3, ex, _⟩ := ok4 hm
  obtain ⟨y0, y1, y2, y3, ey, _⟩ := ok4 ho
  rw [show ag msg = .agg #[.int .u32 x0, .int .u32 x1, .int .u32 x2, .int .u32 x3] by rw [ex, ag4]] at c1 ⊢
  rw [show ag other = .agg #[.int .u32 y0, .int .u32 y1, .int .u32 y2, .int .u32 y3] by rw [ey, ag4]] at c2 ⊢
  have C1 := Lib.hid c1
  have C2 := Lib.hid c2
  have HK := Lib.hid (Ka.new w x0 x1 x2 x3 y0 y1 y2 y3)
  clear c1 c2 ex ey hm ho hs ht35 rs rt ht hf
  obtain ⟨m0, m1, m2, m3, _⟩ := cells4 (HK.out.at 1 rfl)
  go_enter Tryd.func23, Tryd.ntmps23
  go_wp2_with fail
  refine (C2.out _).mono ?_
  rintro e w1 ⟨g2, c2, rfl, _, _, hir, hg2, hb⟩
  have HI2 := Lib.hid hir
  replace HK : Hid (Ka w w1 [x0, x1, x2, x3] [y0, y1, y2, y3]) := Lib.hid (HK.out.after hb)
  clear hb hir hg2 m0 m1 m2 m3
  obtain ⟨m0, m1, m2, m3, _⟩ := cells4 (HK.out.at 0 rfl)
  go_wp2_with fail
  refine (C1.out _).mono ?_
  rintro e w2 ⟨g1, c1, rfl, _, _, hir, hg1, hb⟩
  have HI1 := Lib.hid hir
  replace HI2 := Lib.hid (HI2.out.kept hb)
  replace HK : Hid (Ka w w2 [x0, x1, x2, x3] [y0, y1, y2, y3]) := Lib.hid (HK.out.after hb)
  clear hb hir hg1 m0 m1 m2 m3
  go_wp2_with fail
  go_loopw [28] (fun v wr => ∃ j : Nat, j ≤ 35 ∧ v = .int .i64 (j : Int) ∧ Hid (∀ i, i < j → hit msg other s t i = false) ∧ Hid (Ka w wr [x0, x1, x2, x3] [y0, y1, y2, y3]) ∧ Hid (IRow wr g1 (nms msg)) ∧ Hid (IRow wr g2 (nms other))) (fun v _ => 35 - (intOf v).toNat)
  case atStart => exact ⟨0, Nat.zero_le _, rfl, Lib.hid (fun i hi => by omega), HK, HI1, HI2⟩
  case round =>
    obtain ⟨j, hj, rfl, HH, HK, HI1, HI2⟩ := hrel
    by_cases hlt : j < 35
    · have i0 : (0 : Int) ≤ (j : Int) := by omega
      have i1 : (j : Int) < 35 := by omega
      have hgs := List.getElem?_eq_getElem (l := s) (i := j) (by rw [LS.out]; exact hlt)
      have hgt := List.getElem?_eq_getElem (l := t) (i := j) (by rw [LT.out]; exact hlt)
      have obs := RS.out.ok _ (List.getElem_mem (l := s) (n := j) (by rw [LS.out]; exact hlt))
      have obt := RT.out.ok _ (List.getElem_mem (l := t) (n := j) (by rw [LT.out]; exact hlt))
      obtain ⟨s0, s1, s2, s3, es, _⟩ := ok4 obs
      obtain ⟨t0, t1, t2, t3, et, _⟩ := ok4 obt
      rw [es] at hgs obs
      rw [et] at hgt obt
      have hsd : s.getD j [] = [s0, s1, s2, s3] := by rw [List.getD_eq_getElem?_getD, hgs]; rfl
      have htd : t.getD j [] = [t0, t1, t2, t3] := by rw [List.getD_eq_getElem?_getD, hgt]; rfl
      have hd1 := HN1.out j
      have hd2 := HN2.out j
      have hc1 := HI1.out.at_ j (by rw [HNL1.out]; exact hlt)
      have hc2 := HI2.out.at_ j (by rw [HNL2.out]; exact hlt)
      have k0 := @hit_low msg other s t j
      have k1 := @hit_off msg other s t j
      have k2 := @hit_on msg other s t j
      rw [htd, hsd] at k1 k2
      obtain ⟨d1, ed1⟩ : ∃ d, (nms msg).getD j 0 = d := ⟨_, rfl⟩
      obtain ⟨d2, ed2⟩ : ∃ d, (nms other).getD j 0 = d := ⟨_, rfl⟩
      rw [ed1] at hd1 hc1
      rw [ed2] at hd2 hc2
      rw [ed1, ed2] at k0 k1 k2
      have GS := Lib.hid hgs
      have GT := Lib.hid hgt
      by_cases hlow : d2 < d1
      · have hz : (d1 : Int) - (d2 : Int) = ((d1 - d2 : Nat) : Int) := by omega
        have ow := wk_ok obt (d1 - d2)
        obtain ⟨z0, z1, z2, z3, ew, _⟩ := ok4 ow
        rw [ew] at k1 k2
        have OT := Lib.hid obt
        have HZ := Lib.hid hz
        have HLE : Hid (d1 - d2 ≤ 15) := Lib.hid (by omega)
        have HEW := Lib.hid ew
        have HED := Lib.hid ed2
        have HJ2 : Hid (j < (nms other).length) := Lib.hid (by rw [HNL2.out]; exact hlt)
        have jw : IntKind.i64.wrap ((d1 : Int) - (d2 : Int)) = (d1 : Int) - (d2 : Int) := by rw [IntKind.wrap_i64]; omega
        have jl : decide ((d2 : Int) < (d1 : Int)) = true := by rw [decide_eq_true_iff]; omega
        have jl2 : (d2 : Int) < (d1 : Int) := by omega
        replace HK : Hid (Ka w wr.drew [x0, x1, x2, x3] [y0, y1, y2, y3]) := Lib.hid HK.out.drew
        replace HI1 := Lib.hid HI1.out.drew
        replace HI2 := Lib.hid HI2.out.drew
        have HSZ : Hid (wr.drew.heap.size = wr.heap.size) := Lib.hid rfl
        by_cases hq : [z0, z1, z2, z3] = [s0, s1, s2, s3]
        · have HIT := Lib.hid (k2 hlow hq)
          have hsm : same [z0, z1, z2, z3] [s0, s1, s2, s3] = true := by rw [hq]; exact same_self _
          have HTD := Lib.hid htd
          clear k0 k1 k2 es et ed1 ed2 hgs hgt obs obt hsd htd hc2 hz ow ew hq
          go_wp2_with fail
          clear hc1
          go_region_held3 (fun W => W.cell? ⟨g2, j, none⟩ = some (.int .i64 (d2 : Int)) ∧ W.cell? ⟨bt, ot + j * 4, none⟩ = some (.int .u32 t0) ∧ W.cell? ⟨bt, ot + j * 4 + 1, none⟩ = some (.int .u32 t1) ∧ W.cell? ⟨bt, ot + j * 4 + 2, none⟩ = some (.int .u32 t2) ∧ W.cell? ⟨bt, ot + j * 4 + 3, none⟩ = some (.int .u32 t3) ∧ W.cell? ⟨bs, os + j * 4, none⟩ = some (.int .u32 s0) ∧ W.cell? ⟨bs, os + j * 4 + 1, none⟩ = some (.int .u32 s1) ∧ W.cell? ⟨bs, os + j * 4 + 2, none⟩ = some (.int .u32 s2) ∧ W.cell? ⟨bs, os + j * 4 + 3, none⟩ = some (.int .u32 s3))
            (with_reducible exact nine HK.out HI2.out HJ2.out HED.out RS.out GS.out RT.out GT.out)
            (first
              | (go_at_call 28; with_reducible refine (walk_new _ _ _ _ _).mono ?_; rintro e w3 ⟨rfl, hw, hb⟩; have HW := Lib.hid hw; have HKo := HK; have HI1o := HI1; have HI2o := HI2; replace HK := Lib.hid (HK.out.after hb); replace HI1 := Lib.hid (HI1.out.kept hb); replace HI2 := Lib.hid (HI2.out.kept hb); clear hb hw)
              | (go_at_call 35; with_reducible refine (step_from HSZ.out HW.out OT.out HZ.out HLE.out HEW.out (HKo.out.tabs HT.out)).mono ?_; rintro e w4 ⟨rfl, hb⟩; replace HK := Lib.hid (HKo.out.after hb); replace HI1 := Lib.hid (HI1o.out.kept hb); replace HI2 := Lib.hid (HI2o.out.kept hb); clear hb))
          all_goals
            obtain ⟨_, v0, v1, v2, v3, _⟩ := nine HK.out HI2.out HJ2.out HED.out RS.out GS.out RT.out GT.out
            obtain ⟨b0, b1, b2, b3, e0, e1, e2, e3⟩ := cells4 (HK.out.at 2 rfl)
            have HRR := Lib.hid (row4 (HK.out.at 2 rfl) (.int .u32 t0) (.int .u32 t1) (.int .u32 t2) (.int .u32 t3))
            have HEE := Lib.hid (HK.out.put4 2 rfl (.inr (by omega)) (.int .u32 t0) (.int .u32 t1) (.int .u32 t2) (.int .u32 t3)).drew.be.plain
            have HF2 : Hid (f = .tuple #[.int .i64 (j : Int), .agg #[.int .u32 t0, .int .u32 t1, .int .u32 t2, .int .u32 t3], .bool true]) := Lib.hid (HF.out.symm.trans (ahv_some (ahd_some hlt HH.out HIT.out) HTD.out))
            go_wp2_with fail
            go_region
            all_goals
              go_wp2_with fail
              exact bodyPost_ret (v := .tuple #[.int .i64 (j : Int), .agg #[.int .u32 t0, .int .u32 t1, .int .u32 t2, .int .u32 t3], .bool true]) (by
                obtain ⟨k0, k1, k2, k3, _⟩ := cells4 HRR.out
                simp [results, go_sem, k0, k1, k2, k3]) rfl ⟨by rw [HF2.out], HEE.out⟩
        · have HHN := Lib.hid (k1 hq)
          have hsm : same [z0, z1, z2, z3] [s0, s1, s2, s3] = false := same_no hq
          clear k0 k1 k2 es et ed1 ed2 hgs hgt obs obt hsd htd hc2 hz ow ew hq
          have HH2 : Hid (∀ i, i < j + 1 → hit msg other s t i = false) := Lib.hid (fun i hi => by
            rcases Nat.lt_or_ge i j with h | h
            · exact HH.out i h
            · obtain rfl : i = j := by omega
              exact HHN.out)
          go_wp2_with fail
          clear hc1
          go_region_held3 (fun W => W.cell? ⟨g2, j, none⟩ = some (.int .i64 (d2 : Int)) ∧ W.cell? ⟨bt, ot + j * 4, none⟩ = some (.int .u32 t0) ∧ W.cell? ⟨bt, ot + j * 4 + 1, none⟩ = some (.int .u32 t1) ∧ W.cell? ⟨bt, ot + j * 4 + 2, none⟩ = some (.int .u32 t2) ∧ W.cell? ⟨bt, ot + j * 4 + 3, none⟩ = some (.int .u32 t3) ∧ W.cell? ⟨bs, os + j * 4, none⟩ = some (.int .u32 s0) ∧ W.cell? ⟨bs, os + j * 4 + 1, none⟩ = some (.int .u32 s1) ∧ W.cell? ⟨bs, os + j * 4 + 2, none⟩ = some (.int .u32 s2) ∧ W.cell? ⟨bs, os + j * 4 + 3, none⟩ = some (.int .u32 s3))
            (with_reducible exact nine HK.out HI2.out HJ2.out HED.out RS.out GS.out RT.out GT.out)
            (first
              | (go_at_call 28; with_reducible refine (walk_new _ _ _ _ _).mono ?_; rintro e w3 ⟨rfl, hw, hb⟩; have HW := Lib.hid hw; have HKo := HK; have HI1o := HI1; have HI2o := HI2; replace HK := Lib.hid (HK.out.after hb); replace HI1 := Lib.hid (HI1.out.kept hb); replace HI2 := Lib.hid (HI2.out.kept hb); clear hb hw)
              | (go_at_call 35; with_reducible refine (step_from HSZ.out HW.out OT.out HZ.out HLE.out HEW.out (HKo.out.tabs HT.out)).mono ?_; rintro e w4 ⟨rfl, hb⟩; replace HK := Lib.hid (HKo.out.after hb); replace HI1 := Lib.hid (HI1o.out.kept hb); replace HI2 := Lib.hid (HI2o.out.kept hb); clear hb))
          all_goals
            go_wp2_with fail
            go_roundw
            case rel => exact ⟨j + 1, by omega, by go_num, HH2, HK, HI1, HI2⟩
            case measure => simp [intOf]; omega
      · have HHN := Lib.hid (k0 hlow)
        have jl : decide ((d2 : Int) < (d1 : Int)) = false := by rw [decide_eq_false_iff_not]; omega
        have jl2 : ¬ (d2 : Int) < (d1 : Int) := by omega
        clear k0 k1 k2 es et ed1 ed2 hgs hgt obs obt hsd htd
        go_wp2_with fail
        go_quiet (fail)
        go_wp2_with fail
        have HK2 : Hid (Ka w (wr.drewN nq) [x0, x1, x2, x3] [y0, y1, y2, y3]) := Lib.hid (HK.out.drewN nq)
        have HI12 := Lib.hid (HI1.out.drewN nq)
        have HI22 := Lib.hid (HI2.out.drewN nq)
        have HH2 : Hid (∀ i, i < j + 1 → hit msg other s t i = false) := Lib.hid (fun i hi => by
          rcases Nat.lt_or_ge i j with h | h
          · exact HH.out i h
          · obtain rfl : i = j := by omega
            exact HHN.out)
        go_roundw
        case rel => exact ⟨j + 1, by omega, by go_num, HH2, HK2, HI12, HI22⟩
        case measure => simp [intOf]; omega
    · obtain rfl : j = 35 := by omega
      have HF2 : Hid (f = .tuple #[.int .i64 0, .agg #[.int .u32 0, .int .u32 0, .int .u32 0, .int .u32 0], .bool false]) := Lib.hid (by rw [← HF.out, ahv, ahd_none HH.out])
      obtain ⟨b0, b1, b2, b3, d0, d1, d2, d3⟩ := cells4 (HK.out.at 2 rfl)
      have HRR := Lib.hid (row4 (HK.out.at 2 rfl) (.int .u32 0) (.int .u32 0) (.int .u32 0) (.int .u32 0))
      have HEE := Lib.hid (HK.out.put4 2 rfl (.inr (by omega)) (.int .u32 0) (.int .u32 0) (.int .u32 0) (.int .u32 0)).be.plain
      go_wp2_with fail
      exact bodyPost_ret (v := .tuple #[.int .i64 0, .agg #[.int .u32 0, .int .u32 0, .int .u32 0, .int .u32 0], .bool false]) (by
        obtain ⟨k0, k1, k2, k3, _⟩ := cells4 HRR.out
        simp [results, go_sem, k0, k1, k2, k3]) rfl ⟨by rw [HF2.out], HEE.out⟩
end Go.Proofs.YtnobnnbckehikaaDoor
