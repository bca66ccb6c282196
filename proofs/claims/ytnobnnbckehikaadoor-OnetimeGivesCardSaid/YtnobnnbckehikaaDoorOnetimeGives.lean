/- The law OnetimeGives: for every seed and every two messages it returns true, and all read as before. The two tables that it reads hold what the program's text lays (the card ties them). No other condition. -/
import Derived.Test.YtnobnnbckehikaaDoorOneW
import Derived.Test.YtnobnnbckehikaaDoorOneQ
namespace Go.Proofs.YtnobnnbckehikaaDoor.onetimeGives
open Go.ChangeShapes Go.WideShapes Go.ChangeAt Go.RowKit
set_option linter.unusedVariables false

theorem all3 {w W : World} {n0 n1 n2 : Nat} {x0 x1 x2 x3 y0 y1 y2 y3 z0 z1 z2 z3 : Int} (h : Kx none w W [(n0, .cells #[.int .u32 x0, .int .u32 x1, .int .u32 x2, .int .u32 x3] 24 (0, 0)), (n1, .cells #[.int .u32 y0, .int .u32 y1, .int .u32 y2, .int .u32 y3] 24 (0, 0)), (n2, .cells #[.int .u32 z0, .int .u32 z1, .int .u32 z2, .int .u32 z3] 24 (0, 0))]) : W.cell? ⟨n0, 0, none⟩ = some (.int .u32 x0) ∧ W.cell? ⟨n0, 1, none⟩ = some (.int .u32 x1) ∧ W.cell? ⟨n0, 2, none⟩ = some (.int .u32 x2) ∧ W.cell? ⟨n0, 3, none⟩ = some (.int .u32 x3) ∧ W.cell? ⟨n1, 0, none⟩ = some (.int .u32 y0) ∧ W.cell? ⟨n1, 1, none⟩ = some (.int .u32 y1) ∧ W.cell? ⟨n1, 2, none⟩ = some (.int .u32 y2) ∧ W.cell? ⟨n1, 3, none⟩ = some (.int .u32 y3) ∧ W.cell? ⟨n2, 0, none⟩ = some (.int .u32 z0) ∧ W.cell? ⟨n2, 1, none⟩ = some (.int .u32 z1) ∧ W.cell? ⟨n2, 2, none⟩ = some (.int .u32 z2) ∧ W.cell? ⟨n2, 3, none⟩ = some (.int .u32 z3) := by
  obtain ⟨kx0, kx1, kx2, kx3, _⟩ := cells4 (h.at 0 rfl)
  obtain ⟨ky0, ky1, ky2, ky3, _⟩ := cells4 (h.at 1 rfl)
  obtain ⟨kz0, kz1, kz2, kz3, _⟩ := cells4 (h.at 2 rfl)
  exact ⟨kx0, kx1, kx2, kx3, ky0, ky1, ky2, ky3, kz0, kz1, kz2, kz3⟩
theorem all3t {w W : World} {n0 n1 n2 : Nat} {x0 x1 x2 x3 y0 y1 y2 y3 z0 z1 z2 z3 : Int} {r : List (Nat × Obj)} (h : Kx none w W ((n0, .cells #[.int .u32 x0, .int .u32 x1, .int .u32 x2, .int .u32 x3] 24 (0, 0)) :: (n1, .cells #[.int .u32 y0, .int .u32 y1, .int .u32 y2, .int .u32 y3] 24 (0, 0)) :: (n2, .cells #[.int .u32 z0, .int .u32 z1, .int .u32 z2, .int .u32 z3] 24 (0, 0)) :: r)) : W.cell? ⟨n0, 0, none⟩ = some (.int .u32 x0) ∧ W.cell? ⟨n0, 1, none⟩ = some (.int .u32 x1) ∧ W.cell? ⟨n0, 2, none⟩ = some (.int .u32 x2) ∧ W.cell? ⟨n0, 3, none⟩ = some (.int .u32 x3) ∧ W.cell? ⟨n1, 0, none⟩ = some (.int .u32 y0) ∧ W.cell? ⟨n1, 1, none⟩ = some (.int .u32 y1) ∧ W.cell? ⟨n1, 2, none⟩ = some (.int .u32 y2) ∧ W.cell? ⟨n1, 3, none⟩ = some (.int .u32 y3) ∧ W.cell? ⟨n2, 0, none⟩ = some (.int .u32 z0) ∧ W.cell? ⟨n2, 1, none⟩ = some (.int .u32 z1) ∧ W.cell? ⟨n2, 2, none⟩ = some (.int .u32 z2) ∧ W.cell? ⟨n2, 3, none⟩ = some (.int .u32 z3) := by
  obtain ⟨kx0, kx1, kx2, kx3, _⟩ := cells4 (h.at 0 rfl)
  obtain ⟨ky0, ky1, ky2, ky3, _⟩ := cells4 (h.at 1 rfl)
  obtain ⟨kz0, kz1, kz2, kz3, _⟩ := cells4 (h.at 2 rfl)
  exact ⟨kx0, kx1, kx2, kx3, ky0, ky1, ky2, ky3, kz0, kz1, kz2, kz3⟩
theorem _root_.Go.Proofs.YtnobnnbckehikaaDoor.DRow.four0 {w : World} {b : Nat} {l : Dl} (h : DRow w b 0 l) {j : Nat} {v0 v1 v2 v3 : Int} (hj : l[j]? = some [v0, v1, v2, v3]) : w.cell? ⟨b, j * 4, none⟩ = some (.int .u32 v0) ∧ w.cell? ⟨b, j * 4 + 1, none⟩ = some (.int .u32 v1) ∧ w.cell? ⟨b, j * 4 + 2, none⟩ = some (.int .u32 v2) ∧ w.cell? ⟨b, j * 4 + 3, none⟩ = some (.int .u32 v3) := by
  have := h.four hj
  simpa using this
theorem big {w W : World} {n0 n1 n2 n3 n4 gs gt ga gb i k ai bi ak bk : Nat} {x0 x1 x2 x3 y0 y1 y2 y3 z0 z1 z2 z3 t0 t1 t2 t3 u0 u1 u2 u3 s0 s1 s2 s3 v0 v1 v2 v3 : Int} {s t : Dl} {a b : List Nat} (h : Kx none w W [(n0, .cells #[.int .u32 x0, .int .u32 x1, .int .u32 x2, .int .u32 x3] 24 (0, 0)), (n1, .cells #[.int .u32 y0, .int .u32 y1, .int .u32 y2, .int .u32 y3] 24 (0, 0)), (n2, .cells #[.int .u32 z0, .int .u32 z1, .int .u32 z2, .int .u32 z3] 24 (0, 0)), (n3, .cells #[.int .u32 t0, .int .u32 t1, .int .u32 t2, .int .u32 t3] 24 (0, 0)), (n4, .cells #[.int .u32 u0, .int .u32 u1, .int .u32 u2, .int .u32 u3] 24 (0, 0))]) (hs : DRow W gs 0 s) (ht : DRow W gt 0 t) (ha : IRow W ga a) (hb : IRow W gb b)
    (e1 : t[i]? = some [t0, t1, t2, t3]) (e2 : s[k]? = some [u0, u1, u2, u3]) (e3 : s[i]? = some [s0, s1, s2, s3]) (e4 : t[k]? = some [v0, v1, v2, v3]) (la : a.length = 35) (lb : b.length = 35) (hi : i < 35) (hk : k < 35) (f1 : a.getD i 0 = ai) (f2 : b.getD i 0 = bi) (f3 : a.getD k 0 = ak) (f4 : b.getD k 0 = bk) :
    W.cell? ⟨n3, 0, none⟩ = some (.int .u32 t0) ∧ W.cell? ⟨n3, 1, none⟩ = some (.int .u32 t1) ∧ W.cell? ⟨n3, 2, none⟩ = some (.int .u32 t2) ∧ W.cell? ⟨n3, 3, none⟩ = some (.int .u32 t3) ∧ W.cell? ⟨n4, 0, none⟩ = some (.int .u32 u0) ∧ W.cell? ⟨n4, 1, none⟩ = some (.int .u32 u1) ∧ W.cell? ⟨n4, 2, none⟩ = some (.int .u32 u2) ∧ W.cell? ⟨n4, 3, none⟩ = some (.int .u32 u3) ∧ W.cell? ⟨gt, i * 4, none⟩ = some (.int .u32 t0) ∧ W.cell? ⟨gt, i * 4 + 1, none⟩ = some (.int .u32 t1) ∧ W.cell? ⟨gt, i * 4 + 2, none⟩ = some (.int .u32 t2) ∧ W.cell? ⟨gt, i * 4 + 3, none⟩ = some (.int .u32 t3) ∧ W.cell? ⟨gs, k * 4, none⟩ = some (.int .u32 u0) ∧ W.cell? ⟨gs, k * 4 + 1, none⟩ = some (.int .u32 u1) ∧ W.cell? ⟨gs, k * 4 + 2, none⟩ = some (.int .u32 u2) ∧ W.cell? ⟨gs, k * 4 + 3, none⟩ = some (.int .u32 u3) ∧ W.cell? ⟨gs, i * 4, none⟩ = some (.int .u32 s0) ∧ W.cell? ⟨gs, i * 4 + 1, none⟩ = some (.int .u32 s1) ∧ W.cell? ⟨gs, i * 4 + 2, none⟩ = some (.int .u32 s2) ∧ W.cell? ⟨gs, i * 4 + 3, none⟩ = some (.int .u32 s3) ∧ W.cell? ⟨gt, k * 4, none⟩ = some (.int .u32 v0) ∧ W.cell? ⟨gt, k * 4 + 1, none⟩ = some (.int .u32 v1) ∧ W.cell? ⟨gt, k * 4 + 2, none⟩ = some (.int .u32 v2) ∧ W.cell? ⟨gt, k * 4 + 3, none⟩ = some (.int .u32 v3) ∧ W.cell? ⟨ga, i, none⟩ = some (.int .i64 (ai : Int)) ∧ W.cell? ⟨gb, i, none⟩ = some (.int .i64 (bi : Int)) ∧ W.cell? ⟨ga, k, none⟩ = some (.int .i64 (ak : Int)) ∧ W.cell? ⟨gb, k, none⟩ = some (.int .i64 (bk : Int)) := by
  obtain ⟨p0, p1, p2, p3, _⟩ := cells4 (h.at 3 rfl)
  obtain ⟨q0, q1, q2, q3, _⟩ := cells4 (h.at 4 rfl)
  obtain ⟨r0, r1, r2, r3⟩ := ht.four0 e1
  obtain ⟨c0, c1, c2, c3⟩ := hs.four0 e2
  obtain ⟨d0, d1, d2, d3⟩ := hs.four0 e3
  obtain ⟨l0, l1, l2, l3⟩ := ht.four0 e4
  have m1 := ha.at_ i (by omega)
  have m2 := hb.at_ i (by omega)
  have m3 := ha.at_ k (by omega)
  have m4 := hb.at_ k (by omega)
  rw [f1] at m1
  rw [f2] at m2
  rw [f3] at m3
  rw [f4] at m4
  exact ⟨p0, p1, p2, p3, q0, q1, q2, q3, r0, r1, r2, r3, c0, c1, c2, c3, d0, d1, d2, d3, l0, l1, l2, l3, m1, m2, m3, m4⟩
set_option maxRecDepth 100000 in
set_option maxHeartbeats 4000000 in
theorem walk_same {x0 x1 x2 x3 y0 y1 y2 y3 : Int} (w : World) (ht : Tabs w) :
    Calls Tryd.prog 8 #[ag [x0, x1, x2, x3], ag [y0, y1, y2, y3], ag [y0, y1, y2, y3]] w fun e w' => e = .returned (.bool true) ∧ Below w.heap.size w w' := by
  rw [ag4, ag4]
  have HT := Lib.hid ht
  have HK := Lib.hid ((((Kx.nil none w).add (w.heap.size) (by simp) (.cells #[.int .u32 x0, .int .u32 x1, .int .u32 x2, .int .u32 x3] 24 (0, 0))).add (w.heap.size + 1) (by simp) (.cells #[.int .u32 y0, .int .u32 y1, .int .u32 y2, .int .u32 y3] 24 (0, 0))).add (w.heap.size + 1 + 1) (by simp) (.cells #[.int .u32 y0, .int .u32 y1, .int .u32 y2, .int .u32 y3] 24 (0, 0)))
  have q4 := eq4s
  have h0 := same_self
  clear ht
  go_enter Tryd.func8, Tryd.ntmps8
  go_wp2_with fail
  refine (awake_any _ (HT.out.oldn HK.out)).mono ?_
  rintro e w1 ⟨rfl, hb⟩
  replace HK := Lib.hid (HK.out.after hb)
  clear hb
  go_wp2_with fail
  go_ret
  exact ⟨rfl, HK.out.be.plain⟩
set_option maxRecDepth 100000 in
set_option maxHeartbeats 4000000 in
theorem walk_other {x0 x1 x2 x3 y0 y1 y2 y3 z0 z1 z2 z3 : Int} (o0 : Ok4 [x0, x1, x2, x3]) (o1 : Ok4 [y0, y1, y2, y3]) (o2 : Ok4 [z0, z1, z2, z3]) (hne : ¬ [y0, y1, y2, y3] = [z0, z1, z2, z3]) (w : World) (ht : Tabs w) :
    Calls Tryd.prog 8 #[ag [x0, x1, x2, x3], ag [y0, y1, y2, y3], ag [z0, z1, z2, z3]] w fun e w' => e = .returned (.bool true) ∧ Below w.heap.size w w' := by
  obtain ⟨i, a1, hi, a2, a3⟩ := ahd_sgn (seed := [x0, x1, x2, x3]) o1 o2 hne
  obtain ⟨k, b1, hk, b2, b3⟩ := ahd_sgn (seed := [x0, x1, x2, x3]) o2 o1 (fun e => hne e.symm)
  have c1 := fun w ht => sign_codex _ _ w o0 o1 ht
  have c2 := fun w ht => sign_codex _ _ w o0 o2 ht
  have c5 := fun w => steps_refx _ w o1
  have c6 := fun w => steps_refx _ w o2
  have hsl := sgn_length [x0, x1, x2, x3] [y0, y1, y2, y3]
  have htl := sgn_length [x0, x1, x2, x3] [z0, z1, z2, z3]
  have hso := sgn_oks (msg := [y0, y1, y2, y3]) o0
  have hto := sgn_oks (msg := [z0, z1, z2, z3]) o0
  have hla := nms_length o1
  have hlb := nms_length o2
  have hga := nms_get [y0, y1, y2, y3]
  have hgb := nms_get [z0, z1, z2, z3]
  obtain ⟨s, es⟩ : ∃ s, sgn [x0, x1, x2, x3] [y0, y1, y2, y3] = s := ⟨_, rfl⟩
  obtain ⟨t, et⟩ : ∃ t, sgn [x0, x1, x2, x3] [z0, z1, z2, z3] = t := ⟨_, rfl⟩
  rw [es, et] at a1 a3 b1 b3
  rw [es] at c1 hsl hso
  rw [et] at c2 htl hto
  have ge : ∀ {l : Dl} {j : Nat}, Oks l → l.length = 35 → j < 35 → ∃ v0 v1 v2 v3 : Int, l[j]? = some [v0, v1, v2, v3] ∧ l.getD j [] = [v0, v1, v2, v3] ∧ Ok4 [v0, v1, v2, v3] := by
    intro l j ho hl hj
    have e := List.getElem?_eq_getElem (l := l) (i := j) (by omega)
    have oo := ho _ (List.getElem_mem (l := l) (n := j) (by omega))
    obtain ⟨v0, v1, v2, v3, ev, _⟩ := ok4 oo
    rw [ev] at e oo
    exact ⟨v0, v1, v2, v3, e, by rw [List.getD_eq_getElem?_getD, e]; rfl, oo⟩
  obtain ⟨t0, t1, t2, t3, g1, d1, ot⟩ := ge hto htl hi
  obtain ⟨u0, u1, u2, u3, g2, d2, ou⟩ := ge hso hsl hk
  obtain ⟨s0, s1, s2, s3, g3, d3, _⟩ := ge hso hsl hi
  obtain ⟨v0, v1, v2, v3, g4, d4, _⟩ := ge hto htl hk
  rw [d1, d3] at a3
  rw [d2, d4] at b3
  have e1 := ahv_some a1 d1
  have e2 := ahv_some b1 d2
  have c3 := fun (b b' cap cap' : Nat) w (hc : 35 ≤ cap) (hc' : 35 ≤ cap') u1 u2 ht => ahead_row (bs := b) (os := 0) (cs := cap) (bt := b') (ot := 0) (ct := cap') (s := s) (t := t) [y0, y1, y2, y3] [z0, z1, z2, z3] w o1 o2 hsl htl hc hc' u1 u2 ht
  have c4 := fun (b b' cap cap' : Nat) w (hc : 35 ≤ cap) (hc' : 35 ≤ cap') u1 u2 ht => ahead_row (bs := b) (os := 0) (cs := cap) (bt := b') (ot := 0) (ct := cap') (s := t) (t := s) [z0, z1, z2, z3] [y0, y1, y2, y3] w o2 o1 htl hsl hc hc' u1 u2 ht
  rw [e1] at c3
  rw [e2] at c4
  have hA1 := hga i
  have hA2 := hga k
  have hB1 := hgb i
  have hB2 := hgb k
  obtain ⟨ai, f1⟩ : ∃ d, (nms [y0, y1, y2, y3]).getD i 0 = d := ⟨_, rfl⟩
  obtain ⟨bi, f2⟩ : ∃ d, (nms [z0, z1, z2, z3]).getD i 0 = d := ⟨_, rfl⟩
  obtain ⟨ak, f3⟩ : ∃ d, (nms [y0, y1, y2, y3]).getD k 0 = d := ⟨_, rfl⟩
  obtain ⟨bk, f4⟩ : ∃ d, (nms [z0, z1, z2, z3]).getD k 0 = d := ⟨_, rfl⟩
  rw [f1] at hA1 a2 a3
  rw [f2] at hB1 a2 a3
  rw [f3] at hA2 b2 b3
  rw [f4] at hB2 b2 b3
  have c7 := fun W => walk_ref [t0, t1, t2, t3] (ai - bi) W ot (by omega)
  have c8 := fun W => walk_ref [u0, u1, u2, u3] (bk - ak) W ou (by omega)
  rw [a3, show ((ai - bi : Nat) : Int) = (ai : Int) - (bi : Int) by omega, ag4, ag4] at c7
  rw [b3, show ((bk - ak : Nat) : Int) = (bk : Int) - (ak : Int) by omega, ag4, ag4] at c8
  rw [ag4, ag4] at c1 c2 c3 c4
  rw [ag4] at c5 c6
  rw [ag4, ag4, ag4]
  have C1 := Lib.hid c1
  have C2 := Lib.hid c2
  have C3 := Lib.hid c3
  have C4 := Lib.hid c4
  have C5 := Lib.hid c5
  have C6 := Lib.hid c6
  have C7 := Lib.hid c7
  have C8 := Lib.hid c8
  have G1 := Lib.hid g1
  have G2 := Lib.hid g2
  have G3 := Lib.hid g3
  have G4 := Lib.hid g4
  have F1 := Lib.hid f1
  have F2 := Lib.hid f2
  have F3 := Lib.hid f3
  have F4 := Lib.hid f4
  have LA := Lib.hid hla
  have LB := Lib.hid hlb
  have PI := Lib.hid hi
  have PK := Lib.hid hk
  have HT := Lib.hid ht
  have HK := Lib.hid ((((Kx.nil none w).add (w.heap.size) (by simp) (.cells #[.int .u32 x0, .int .u32 x1, .int .u32 x2, .int .u32 x3] 24 (0, 0))).add (w.heap.size + 1) (by simp) (.cells #[.int .u32 y0, .int .u32 y1, .int .u32 y2, .int .u32 y3] 24 (0, 0))).add (w.heap.size + 1 + 1) (by simp) (.cells #[.int .u32 z0, .int .u32 z1, .int .u32 z2, .int .u32 z3] 24 (0, 0)))
  have q4 := eq4s
  have h0 := same_self
  have hsm : same [y0, y1, y2, y3] [z0, z1, z2, z3] = false := same_no hne
  have i0 : (0 : Int) ≤ (i : Int) := by omega
  have i1 : (i : Int) < 35 := by omega
  have i2 : (i : Int) ≤ 34 := by omega
  have i3 : (0 : Int) ≤ (k : Int) := by omega
  have i4 : (k : Int) < 35 := by omega
  have i5 : (k : Int) ≤ 34 := by omega
  have j0 : (bi : Int) < (ai : Int) := by omega
  have j1 : (ak : Int) < (bk : Int) := by omega
  have j2 : IntKind.i64.wrap ((ai : Int) - (bi : Int)) = (ai : Int) - (bi : Int) := by rw [IntKind.wrap_i64]; omega
  have j3 : IntKind.i64.wrap ((bk : Int) - (ak : Int)) = (bk : Int) - (ak : Int) := by rw [IntKind.wrap_i64]; omega
  clear c1 c2 c3 c4 c5 c6 c7 c8 g1 g2 g3 g4 f1 f2 f3 f4 hla hlb hi hk ht hne a1 a2 a3 b1 b2 b3 e1 e2 es et d1 d2 d3 d4 ot ou hso hto hsl htl hga hgb ge hA1 hA2 hB1 hB2
  obtain ⟨m0, m1, m2, m3, _⟩ := cells4 (HK.out.at 1 rfl)
  obtain ⟨n0, n1, n2, n3, _⟩ := cells4 (HK.out.at 2 rfl)
  go_enter Tryd.func8, Tryd.ntmps8
  go_wp2_with fail
  clear m0 m1 m2 m3 n0 n1 n2 n3
  replace HK := Lib.hid HK.out.drew
  go_region_held3 (fun W => W.cell? ⟨w.heap.size, 0, none⟩ = some (.int .u32 x0) ∧ W.cell? ⟨w.heap.size, 1, none⟩ = some (.int .u32 x1) ∧ W.cell? ⟨w.heap.size, 2, none⟩ = some (.int .u32 x2) ∧ W.cell? ⟨w.heap.size, 3, none⟩ = some (.int .u32 x3) ∧ W.cell? ⟨w.heap.size + 1, 0, none⟩ = some (.int .u32 y0) ∧ W.cell? ⟨w.heap.size + 1, 1, none⟩ = some (.int .u32 y1) ∧ W.cell? ⟨w.heap.size + 1, 2, none⟩ = some (.int .u32 y2) ∧ W.cell? ⟨w.heap.size + 1, 3, none⟩ = some (.int .u32 y3) ∧ W.cell? ⟨w.heap.size + 1 + 1, 0, none⟩ = some (.int .u32 z0) ∧ W.cell? ⟨w.heap.size + 1 + 1, 1, none⟩ = some (.int .u32 z1) ∧ W.cell? ⟨w.heap.size + 1 + 1, 2, none⟩ = some (.int .u32 z2) ∧ W.cell? ⟨w.heap.size + 1 + 1, 3, none⟩ = some (.int .u32 z3))
    (with_reducible exact all3 HK.out)
    (first
      | (go_at_call 17; with_reducible refine (C1.out _ (HT.out.oldn HK.out)).mono ?_; rintro e w' ⟨gs, cs, rfl, hcs, _, hdr, _, hb⟩; have HS := Lib.hid hdr; clear hdr; replace HK := Lib.hid (HK.out.after hb); clear hb)
      | (go_at_call 17; with_reducible refine (C2.out _ (HT.out.oldn HK.out)).mono ?_; rintro e w' ⟨gt, ct, rfl, hct, _, hdr, _, hb⟩; have HD := Lib.hid hdr; clear hdr; replace HK := Lib.hid (HK.out.after hb); replace HS := Lib.hid (HS.out.kept hb); clear hb))
  go_wp2_with fail
  refine (C3.out _ _ _ _ _ hcs hct HS.out HD.out (HT.out.oldn HK.out)).mono ?_
  rintro e w3 ⟨rfl, hb⟩
  replace HK := Lib.hid ((HK.out.after hb).add w3.heap.size rfl (.cells #[.int .u32 t0, .int .u32 t1, .int .u32 t2, .int .u32 t3] 24 (0, 0)))
  replace HS := Lib.hid ((HS.out.kept hb).alloc (.cells #[.int .u32 t0, .int .u32 t1, .int .u32 t2, .int .u32 t3] 24 (0, 0)))
  replace HD := Lib.hid ((HD.out.kept hb).alloc (.cells #[.int .u32 t0, .int .u32 t1, .int .u32 t2, .int .u32 t3] 24 (0, 0)))
  clear hb
  obtain ⟨m0, m1, m2, m3, _⟩ := cells4 (HK.out.at 1 rfl)
  obtain ⟨n0, n1, n2, n3, _⟩ := cells4 (HK.out.at 2 rfl)
  go_wp2_with fail
  refine (C4.out _ _ _ _ _ hct hcs HD.out HS.out (HT.out.oldn HK.out)).mono ?_
  rintro e w4 ⟨rfl, hb⟩
  replace HK := Lib.hid ((HK.out.after hb).add w4.heap.size rfl (.cells #[.int .u32 u0, .int .u32 u1, .int .u32 u2, .int .u32 u3] 24 (0, 0))).drew
  replace HS := Lib.hid ((HS.out.kept hb).alloc (.cells #[.int .u32 u0, .int .u32 u1, .int .u32 u2, .int .u32 u3] 24 (0, 0))).drew
  replace HD := Lib.hid ((HD.out.kept hb).alloc (.cells #[.int .u32 u0, .int .u32 u1, .int .u32 u2, .int .u32 u3] 24 (0, 0))).drew
  clear hb m0 m1 m2 m3 n0 n1 n2 n3
  have hk := HK.out
  simp only [List.cons_append, List.nil_append] at hk
  replace HK := Lib.hid hk
  clear hk
  go_wp2_with fail
  go_region_held3 (fun W => W.cell? ⟨w.heap.size, 0, none⟩ = some (.int .u32 x0) ∧ W.cell? ⟨w.heap.size, 1, none⟩ = some (.int .u32 x1) ∧ W.cell? ⟨w.heap.size, 2, none⟩ = some (.int .u32 x2) ∧ W.cell? ⟨w.heap.size, 3, none⟩ = some (.int .u32 x3) ∧ W.cell? ⟨w.heap.size + 1, 0, none⟩ = some (.int .u32 y0) ∧ W.cell? ⟨w.heap.size + 1, 1, none⟩ = some (.int .u32 y1) ∧ W.cell? ⟨w.heap.size + 1, 2, none⟩ = some (.int .u32 y2) ∧ W.cell? ⟨w.heap.size + 1, 3, none⟩ = some (.int .u32 y3) ∧ W.cell? ⟨w.heap.size + 1 + 1, 0, none⟩ = some (.int .u32 z0) ∧ W.cell? ⟨w.heap.size + 1 + 1, 1, none⟩ = some (.int .u32 z1) ∧ W.cell? ⟨w.heap.size + 1 + 1, 2, none⟩ = some (.int .u32 z2) ∧ W.cell? ⟨w.heap.size + 1 + 1, 3, none⟩ = some (.int .u32 z3))
    (with_reducible exact all3t HK.out)
    (first
      | (go_at_call 13; with_reducible refine (C5.out _).mono ?_; rintro e w' ⟨ga, ca, rfl, _, _, hir, _, hb⟩; have HI1 := Lib.hid hir; clear hir; replace HK := Lib.hid (HK.out.after hb); replace HS := Lib.hid (HS.out.kept hb); replace HD := Lib.hid (HD.out.kept hb); clear hb)
      | (go_at_call 13; with_reducible refine (C6.out _).mono ?_; rintro e w' ⟨gb, cb, rfl, _, _, hir, _, hb⟩; have HI2 := Lib.hid hir; clear hir; replace HK := Lib.hid (HK.out.after hb); replace HI1 := Lib.hid (HI1.out.kept hb); replace HS := Lib.hid (HS.out.kept hb); replace HD := Lib.hid (HD.out.kept hb); clear hb))
  go_wp2_with fail
  replace HK := Lib.hid HK.out.drew
  replace HS := Lib.hid HS.out.drew
  replace HD := Lib.hid HD.out.drew
  replace HI1 := Lib.hid HI1.out.drew
  replace HI2 := Lib.hid HI2.out.drew
  simp only [List.append_eq, List.cons_append, List.nil_append]
  go_region_held3 (fun W => W.cell? ⟨w3.heap.size, 0, none⟩ = some (.int .u32 t0) ∧ W.cell? ⟨w3.heap.size, 1, none⟩ = some (.int .u32 t1) ∧ W.cell? ⟨w3.heap.size, 2, none⟩ = some (.int .u32 t2) ∧ W.cell? ⟨w3.heap.size, 3, none⟩ = some (.int .u32 t3) ∧ W.cell? ⟨w4.heap.size, 0, none⟩ = some (.int .u32 u0) ∧ W.cell? ⟨w4.heap.size, 1, none⟩ = some (.int .u32 u1) ∧ W.cell? ⟨w4.heap.size, 2, none⟩ = some (.int .u32 u2) ∧ W.cell? ⟨w4.heap.size, 3, none⟩ = some (.int .u32 u3) ∧ W.cell? ⟨gt, i * 4, none⟩ = some (.int .u32 t0) ∧ W.cell? ⟨gt, i * 4 + 1, none⟩ = some (.int .u32 t1) ∧ W.cell? ⟨gt, i * 4 + 2, none⟩ = some (.int .u32 t2) ∧ W.cell? ⟨gt, i * 4 + 3, none⟩ = some (.int .u32 t3) ∧ W.cell? ⟨gs, k * 4, none⟩ = some (.int .u32 u0) ∧ W.cell? ⟨gs, k * 4 + 1, none⟩ = some (.int .u32 u1) ∧ W.cell? ⟨gs, k * 4 + 2, none⟩ = some (.int .u32 u2) ∧ W.cell? ⟨gs, k * 4 + 3, none⟩ = some (.int .u32 u3) ∧ W.cell? ⟨gs, i * 4, none⟩ = some (.int .u32 s0) ∧ W.cell? ⟨gs, i * 4 + 1, none⟩ = some (.int .u32 s1) ∧ W.cell? ⟨gs, i * 4 + 2, none⟩ = some (.int .u32 s2) ∧ W.cell? ⟨gs, i * 4 + 3, none⟩ = some (.int .u32 s3) ∧ W.cell? ⟨gt, k * 4, none⟩ = some (.int .u32 v0) ∧ W.cell? ⟨gt, k * 4 + 1, none⟩ = some (.int .u32 v1) ∧ W.cell? ⟨gt, k * 4 + 2, none⟩ = some (.int .u32 v2) ∧ W.cell? ⟨gt, k * 4 + 3, none⟩ = some (.int .u32 v3) ∧ W.cell? ⟨ga, i, none⟩ = some (.int .i64 (ai : Int)) ∧ W.cell? ⟨gb, i, none⟩ = some (.int .i64 (bi : Int)) ∧ W.cell? ⟨ga, k, none⟩ = some (.int .i64 (ak : Int)) ∧ W.cell? ⟨gb, k, none⟩ = some (.int .i64 (bk : Int)))
    (with_reducible exact big HK.out HS.out HD.out HI1.out HI2.out G1.out G2.out G3.out G4.out LA.out LB.out PI.out PK.out F1.out F2.out F3.out F4.out)
    (first
      | (go_at_call 10; with_reducible refine (awake_any _ (HT.out.oldn HK.out)).mono ?_; rintro e w' ⟨rfl, hb⟩; replace HK := Lib.hid (HK.out.after hb); replace HI1 := Lib.hid (HI1.out.kept hb); replace HI2 := Lib.hid (HI2.out.kept hb); replace HS := Lib.hid (HS.out.kept hb); replace HD := Lib.hid (HD.out.kept hb); clear hb)
      | (go_at_call 24; with_reducible refine (C7.out _).mono ?_; rintro e w' ⟨rfl, hb⟩; replace HK := Lib.hid (HK.out.after hb); replace HI1 := Lib.hid (HI1.out.kept hb); replace HI2 := Lib.hid (HI2.out.kept hb); replace HS := Lib.hid (HS.out.kept hb); replace HD := Lib.hid (HD.out.kept hb); clear hb)
      | (go_at_call 24; with_reducible refine (C8.out _).mono ?_; rintro e w' ⟨rfl, hb⟩; replace HK := Lib.hid (HK.out.after hb); replace HI1 := Lib.hid (HI1.out.kept hb); replace HI2 := Lib.hid (HI2.out.kept hb); replace HS := Lib.hid (HS.out.kept hb); replace HD := Lib.hid (HD.out.kept hb); clear hb))
  all_goals
    go_wp2_with fail
    go_ret
    exact ⟨rfl, HK.out.be.plain⟩
theorem walk {x0 x1 x2 x3 y0 y1 y2 y3 z0 z1 z2 z3 : Int} (o0 : Ok4 [x0, x1, x2, x3]) (o1 : Ok4 [y0, y1, y2, y3]) (o2 : Ok4 [z0, z1, z2, z3]) (w : World) (ht : Tabs w) :
    Calls Tryd.prog 8 #[ag [x0, x1, x2, x3], ag [y0, y1, y2, y3], ag [z0, z1, z2, z3]] w fun e w' => e = .returned (.bool true) ∧ Below w.heap.size w w' := by
  by_cases h : [y0, y1, y2, y3] = [z0, z1, z2, z3]
  · rw [← h]
    exact walk_same w ht
  · exact walk_other o0 o1 o2 h w ht

set_option maxRecDepth 100000 in
theorem contract (H : Type) (enc : TypeId × Value → H) (W : World) (base : Nat) (args : Array Value) (ds gs : List (DataW H)) (before : List MemPlace)
    (hval : ∀ (j : Nat) t v, Tryd.f8.params[j]? = some t → args[j]? = some v → Value.okWide Tryd.prog W .any base t v)
    (hW : DataW.Whole enc Tryd.prog Tryd.f8.params.toList Rows.onetimeGivesSpec.vars false W args.toList ds gs before) (hL : laidMetH Tryd.prog Rows.onetimeGivesRow.laid W) :
    Calls Tryd.prog 8 args W fun e W' => ∃ v, e = .returned v ∧ Rows.onetimeGivesSpec.post enc Tryd.prog Tryd.f8 false true false false W args v W' := by
  have hW' := hW
  obtain ⟨p, q, hA0, hV, rfl, hfz, hnd⟩ := hW
  have hA : DataW.TrodAll enc Tryd.prog W 0 (fun _ => true) true Tryd.f8.params.toList args.toList ds p := hA0
  rw [Tryd.params8] at hA hval
  obtain ⟨v0, vs0, d0, ds0, p0, q0, hargs, rfl, rfl, h0, r0⟩ := trodAll_cons hA
  obtain ⟨v1, vs1, d1, ds1, p1, q1, rfl, rfl, rfl, h1, r1⟩ := trodAll_cons r0
  obtain ⟨v2, vs2, d2, ds2, p2, q2, rfl, rfl, rfl, h2, r2⟩ := trodAll_cons r1
  obtain ⟨rfl, rfl, rfl⟩ := trodAll_nil r2
  obtain rfl : args = #[v0, v1, v2] := by cases args; simp_all
  obtain ⟨rfl, rfl⟩ := trodVars_none hV
  have lt0 : ∀ x ∈ p0, x.block < W.heap.size := by obtain ⟨m, hm⟩ := h0; exact DataW.trod_lt m _ _ _ hm
  obtain ⟨x00, x01, x02, x03, rfl, o0⟩ := open_dig (hval 0 24 v0 rfl rfl) h0
  have lt1 : ∀ x ∈ p1, x.block < W.heap.size := by obtain ⟨m, hm⟩ := h1; exact DataW.trod_lt m _ _ _ hm
  obtain ⟨x10, x11, x12, x13, rfl, o1⟩ := open_dig (hval 1 24 v1 rfl rfl) h1
  have lt2 : ∀ x ∈ p2, x.block < W.heap.size := by obtain ⟨m, hm⟩ := h2; exact DataW.trod_lt m _ _ _ hm
  obtain ⟨x20, x21, x22, x23, rfl, o2⟩ := open_dig (hval 2 24 v2 rfl rfl) h2
  clear hA0
  refine (walk o0 o1 o2 W  (tabs_of hL)).mono fun e W' ⟨he, bel⟩ => ?_
  subst he
  exact ⟨_, rfl, _, _, _, [], _, [], hW', trodAll_mk1 (shut_bool Tryd.underlying4 _), (trodAll_cons_mk (Below.trod laidOut (by kernel_rfl) (of_decide_eq_true (by kernel_rfl)) h0 bel lt0) (trodAll_cons_mk (Below.trod laidOut (by kernel_rfl) (of_decide_eq_true (by kernel_rfl)) h1 bel lt1) (trodAll_cons_mk (Below.trod laidOut (by kernel_rfl) (of_decide_eq_true (by kernel_rfl)) h2 bel lt2) trodAll_mk0))), rfl, bel.frame _, fun h => by cases h⟩

theorem laid_met (os : Os) : laidMet Tryd.prog Rows.onetimeGivesRow.laid ((laidWorld os).forCall (fun _ _ => 0) ⟨#[], #[.agg #[.int .u32 0, .int .u32 0, .int .u32 0, .int .u32 0], .agg #[.int .u32 0, .int .u32 0, .int .u32 0, .int .u32 0], .agg #[.int .u32 0, .int .u32 0, .int .u32 0, .int .u32 0]], []⟩).memory :=
  laidMet_of_run' 8 (by kernel_rfl) (by kernel_rfl)
theorem reads (os : Os) {H : Type} (enc : TypeId × Value → H) : ∃ places, DataW.whole enc Tryd.prog ((laidWorld os).forCall (fun _ _ => 0) ⟨#[], #[.agg #[.int .u32 0, .int .u32 0, .int .u32 0, .int .u32 0], .agg #[.int .u32 0, .int .u32 0, .int .u32 0, .int .u32 0], .agg #[.int .u32 0, .int .u32 0, .int .u32 0, .int .u32 0]], []⟩).memory Tryd.f8.params.toList Rows.onetimeGivesSpec.vars false (#[.agg #[.int .u32 0, .int .u32 0, .int .u32 0, .int .u32 0], .agg #[.int .u32 0, .int .u32 0, .int .u32 0, .int .u32 0], .agg #[.int .u32 0, .int .u32 0, .int .u32 0, .int .u32 0]] : Array Value).toList 8 = some ([.agg [.lit (.int .u32 0), .lit (.int .u32 0), .lit (.int .u32 0), .lit (.int .u32 0)], .agg [.lit (.int .u32 0), .lit (.int .u32 0), .lit (.int .u32 0), .lit (.int .u32 0)], .agg [.lit (.int .u32 0), .lit (.int .u32 0), .lit (.int .u32 0), .lit (.int .u32 0)]], [], places) :=
  ⟨[], by kernel_rfl⟩

set_option maxRecDepth 100000 in
theorem lifted (os : Os) (started : os.Started) (H : Type) (enc : TypeId × Value → H) (F : Stop.Interp) :
    ReturnsInHanded {} Tryd.checked os 8 .any ((OpenSpec.ofChange Rows.onetimeGivesSpec).preRow enc Tryd.prog Tryd.f8 Rows.onetimeGivesRow.domain false Rows.onetimeGivesRow.laid) (((OpenSpec.ofChange Rows.onetimeGivesSpec).at F).post enc Tryd.prog Tryd.f8 false true false false) := by
  obtain ⟨places, hx⟩ := reads os enc
  refine returnsInHanded_of_row (C := Tryd.checked) (s := OpenSpec.ofChange Rows.onetimeGivesSpec) own started (by kernel_rfl) Tryd.func8
    (witness_row_at (enc := enc) (C := Tryd.checked) false (laidWorld os) #[.agg #[.int .u32 0, .int .u32 0, .int .u32 0, .int .u32 0], .agg #[.int .u32 0, .int .u32 0, .int .u32 0, .int .u32 0], .agg #[.int .u32 0, .int .u32 0, .int .u32 0, .int .u32 0]] rfl (by kernel_rfl) (by kernel_rfl) (by kernel_rfl)
      (OpenSpec.preRow_of_cond 8 hx (by kernel_rfl) (fun k hk => by cases hk) (by kernel_rfl) (laid_met os))) ?_
  intro W base args ds gs before hval hW _ _ _ hL _ _
  exact contract H enc W base args ds gs before hval hW hL

theorem said : Rows.OnetimeGivesSaid :=
  OpenClaim.holds_of_cond 8 Tryd.f8 rfl rfl rfl rfl rfl rfl rfl ⟨rfl, rfl, rfl, rfl, rfl⟩ rfl rfl rfl rfl rfl (by kernel_rfl) Tryd.func8 (by kernel_rfl)
    (of_decide_eq_true (by kernel_rfl)) (by unfold Func.isWrapper; first | (rw [if_pos (by decide +kernel)]; kernel_rfl) | (rw [if_neg (by decide +kernel)]; exact ⟨rfl, rfl⟩))
    (fun os started H enc _ F => by rw [OpenClaim.pre_eq_preRow]; exact lifted os started H enc F)

theorem plain (f : FuncId) (fn : Func) (hf : Tryd.pinned.checked.prog.funcNamed "seedcorn/seedcornlaw05.OnetimeGives" = some f) (hfn : Tryd.pinned.checked.prog.funcs[f]? = some fn) :
    false = Tryd.pinned.checked.prog.looks [] ∧ ∀ (j : Nat) t, fn.params[j]? = some t → Tryd.pinned.checked.prog.wantsStandIn t = false := by
  obtain rfl : f = 8 := Option.some.inj ((show Tryd.prog.funcNamed "seedcorn/seedcornlaw05.OnetimeGives" = some 8 by kernel_rfl).symm.trans hf) |>.symm
  obtain rfl : fn = Tryd.f8 := (Option.some.inj (Tryd.func8.symm.trans hfn)).symm
  refine ⟨by kernel_rfl, fun j t ht => ?_⟩
  rw [Tryd.params8] at ht
  have hm := Array.mem_of_getElem? ht
  have hm' : t = 24 := by simpa using hm
  rcases hm' with rfl
  · exact (show Tryd.prog.wantsStandIn 24 = false by kernel_rfl)

/-- The card. -/
theorem card : Rows.OnetimeGivesCardSaid :=
  Claim7.holds_tied_plain_at .later [] _ _ _ _ said (fun _ h => by cases h) (by kernel_rfl) (fun _ h => by cases h) onetimeGives_row_tie rfl ⟨rfl, rfl⟩ (by kernel_rfl) rfl plain (by kernel_rfl)
end Go.Proofs.YtnobnnbckehikaaDoor.onetimeGives
