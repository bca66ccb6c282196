/- The reference of layer 6: the contract of Clash. -/
import Derived.Test.YtfbefenagnlnfaaDoorGKa
import Derived.Test.YtfbefenagnlnfaaDoorMerQ
set_option linter.unusedVariables false
namespace Go.Proofs.YtfbefenagnlnfaaDoor
open Go.RowKit

/-- Both digests on the way up. -/
def Kd2 (w W : World) (a b : Ws) : Prop := Kx none w W [(w.heap.size, .cells (a.map (Value.int .u32)).toArray 24 (0, 0)), (w.heap.size + 1, .cells (b.map (Value.int .u32)).toArray 24 (0, 0))]
theorem lvl_even {i : Nat} (h : i % 2 = 0) (a x : Ws) : lvl i a x = pair a x := by unfold lvl; rw [if_neg (by omega)]
theorem lvl_odd {i : Nat} (h : i % 2 = 1) (a x : Ws) : lvl i a x = pair x a := by unfold lvl; rw [if_pos h]
theorem lvl_ok {a x : Ws} (i : Nat) (ha : Ok4 a) (hx : Ok4 x) : Ok4 (lvl i a x) := by
  unfold lvl
  split
  · exact pair_ok0 hx ha
  · exact pair_ok0 ha hx
theorem drop_at {l : Dl} {j : Nat} {x : Ws} (h : l[j]? = some x) : l.drop j = x :: l.drop (j + 1) := by
  obtain ⟨h1, h2⟩ := List.getElem?_eq_some_iff.1 h
  rw [List.drop_eq_getElem_cons h1, h2]
set_option maxRecDepth 100000 in
set_option maxHeartbeats 4000000 in
theorem clash6r {i m cp cq : Nat} {a b : Ws} {p q : Dl} {A B : Option Addr} (w : World) (hi : i < 1048576) (ha : Ok4 a) (hb : Ok4 b) (hp : p.length = m) (hq : q.length = m) (hm : m ≤ 64) (hcp : m ≤ cp) (hcq : m ≤ cq) (dp : Dd w A p) (dq : Dd w B q) :
    Calls Tryd.prog 22 #[.int .i64 (i : Int), ag a, .slice A m cp, ag b, .slice B m cq] w fun e w' => e = .returned (.bool (ksh i a p b q)) ∧ Below w.heap.size w w' := by
  obtain ⟨bb, hbb⟩ : ∃ bb, ksh i a p b q = bb := ⟨_, rfl⟩
  rw [hbb]
  have HB0 : Hid (ksh i a (p.drop 0) b (q.drop 0) = bb) := Lib.hid (by simpa using hbb)
  have DP := Lib.hid dp
  have DQ := Lib.hid dq
  have HP := Lib.hid hp
  have HQ := Lib.hid hq
  have OA := Lib.hid ha
  have OB := Lib.hid hb
  obtain ⟨a0, a1, a2, a3, ea, _⟩ := ok4 ha
  obtain ⟨b0, b1, b2, b3, eb, _⟩ := ok4 hb
  subst ea eb
  rw [ag4, ag4]
  have HK0 : Hid (Kd2 w ((w.alloc (.cells #[.int .u32 a0, .int .u32 a1, .int .u32 a2, .int .u32 a3] 24)).alloc (.cells #[.int .u32 b0, .int .u32 b1, .int .u32 b2, .int .u32 b3] 24)) [a0, a1, a2, a3] [b0, b1, b2, b3]) :=
    Lib.hid (((Kx.nil none w).more (.cells #[.int .u32 a0, .int .u32 a1, .int .u32 a2, .int .u32 a3] 24 (0, 0))).add (w.heap.size + 1) (by simp) (.cells #[.int .u32 b0, .int .u32 b1, .int .u32 b2, .int .u32 b3] 24 (0, 0)))
  clear hbb dp dq hp hq ha hb
  have q4 := eq4s
  have q47 := eq47
  go_enter Tryd.func22, Tryd.ntmps22
  go_wp2_with fail
  go_loopw [0, 11] (fun v u wr => ∃ (j k : Nat) (x0 x1 x2 x3 y0 y1 y2 y3 : Int), j ≤ m ∧ k < 1048576 ∧ v = .int .i64 (k : Int) ∧ u = .int .i64 (j : Int) ∧ Hid (Ok4 [x0, x1, x2, x3]) ∧ Hid (Ok4 [y0, y1, y2, y3]) ∧ Hid (ksh k [x0, x1, x2, x3] (p.drop j) [y0, y1, y2, y3] (q.drop j) = bb) ∧ Hid (Kd2 w wr [x0, x1, x2, x3] [y0, y1, y2, y3])) (fun _ u _ => m - (intOf u).toNat)
  case atStart => exact ⟨0, i, a0, a1, a2, a3, b0, b1, b2, b3, Nat.zero_le _, hi, rfl, rfl, OA, OB, HB0, HK0⟩
  case round =>
    clear HK0 HB0 OA OB
    obtain ⟨j, k, x0, x1, x2, x3, y0, y1, y2, y3, hj, hk, rfl, rfl, OX, OY, HB, HK⟩ := hrel
    by_cases hlt : j < m
    · have hpne : p ≠ [] := by intro e; have := HP.out; rw [e] at this; simp at this; omega
      have hqne : q ≠ [] := by intro e; have := HQ.out; rw [e] at this; simp at this; omega
      obtain ⟨bp, op, rfl, rp⟩ := DP.out.2 hpne
      obtain ⟨bq, oq, rfl, rq⟩ := DQ.out.2 hqne
      obtain ⟨u0, u1, u2, u3, eu, ou⟩ := rp.get (j := j) (by rw [HP.out]; exact hlt)
      obtain ⟨v0, v1, v2, v3, ev, ov⟩ := rq.get (j := j) (by rw [HQ.out]; exact hlt)
      have i0 : (0 : Int) ≤ (j : Int) := by omega
      have i1 : (j : Int) < (m : Int) := by omega
      have RP := Lib.hid rp
      have RQ := Lib.hid rq
      have EU := Lib.hid eu
      have EV := Lib.hid ev
      have OU := Lib.hid ou
      have OV := Lib.hid ov
      clear rp rq eu ev ou ov hpne hqne
      have HK1 := Lib.hid (HK.out.more (.cells #[.int .u32 0, .int .u32 0, .int .u32 0, .int .u32 0, .int .u32 0, .int .u32 0, .int .u32 0, .int .u32 0] 72 (0, 0)))
      obtain ⟨c0, c1, c2, c3⟩ := (RP.out.oldn HK1.out).four EU.out
      obtain ⟨h0, h1, h2, h3⟩ := (RP.out.oldn HK.out).four EU.out
      obtain ⟨k0, k1, k2, k3, _⟩ := cells4 (HK.out.at 0 rfl)
      obtain ⟨s0, s1, s2, s3, _⟩ := cells4 (HK1.out.at 0 rfl)
      obtain ⟨f0, f1, f2, f3, f4, f5, f6, f7, g0, g1, g2, g3, g4, g5, g6, g7⟩ := cells8 (HK1.out.at 2 rfl)
      have HS := Lib.hid HK.out.be.size
      have HLW : Hid (w.heap.size ≤ w.heap.size + 1) := Lib.hid (by omega)
      have hl4 := HK.out.lt 1 rfl
      go_wp2_with fail
      go_region
      go_wp2_with fail
      have HK2 := Lib.hid (HK.out.more (.cells #[.int .u32 x0, .int .u32 x1, .int .u32 x2, .int .u32 x3, .int .u32 u0, .int .u32 u1, .int .u32 u2, .int .u32 u3] 72 (0, 0))).drew
      obtain ⟨n4, hn4⟩ : ∃ n, wr.heap.size = n := ⟨_, rfl⟩
      rw [hn4] at HK2 HS hl4 ⊢
      obtain ⟨W4, hW4⟩ : ∃ W, (wr.alloc (.cells #[.int .u32 x0, .int .u32 x1, .int .u32 x2, .int .u32 x3, .int .u32 u0, .int .u32 u1, .int .u32 u2, .int .u32 u3] 72)).drew = W := ⟨_, rfl⟩
      rw [hW4] at HK2 ⊢
      have hl5 := HK2.out.lt 2 rfl
      clear hW4 c0 c1 c2 c3 s0 s1 s2 s3 f0 f1 f2 f3 f4 f5 f6 f7 g0 g1 g2 g3 g4 g5 g6 g7 h0 h1 h2 h3 k0 k1 k2 k3 HK1 HK
      by_cases hpar : k % 2 = 0
      · have HPAR := Lib.hid hpar
        have e0 : ((k : Int) % 2 == 1) = false := by rw [beq_eq_false_iff_ne]; omega
        have i3 : (0 : Int) ≤ (k : Int) := by omega
        clear hpar
        have HK1 := Lib.hid (HK2.out.more (.cells #[.int .u32 0, .int .u32 0, .int .u32 0, .int .u32 0, .int .u32 0, .int .u32 0, .int .u32 0, .int .u32 0] 72 (0, 0)))
        obtain ⟨c0, c1, c2, c3⟩ := (RQ.out.oldn HK1.out).four EV.out
        obtain ⟨h0, h1, h2, h3⟩ := (RQ.out.oldn HK2.out).four EV.out
        obtain ⟨k0, k1, k2, k3, _⟩ := cells4 (HK2.out.at 1 rfl)
        obtain ⟨s0, s1, s2, s3, _⟩ := cells4 (HK1.out.at 1 rfl)
        obtain ⟨f0, f1, f2, f3, f4, f5, f6, f7, g0, g1, g2, g3, g4, g5, g6, g7⟩ := cells8 (HK1.out.at 3 rfl)
        have HS5 := Lib.hid HK2.out.be.size
        go_region
        have HK3 := Lib.hid (HK2.out.more (.cells #[.int .u32 y0, .int .u32 y1, .int .u32 y2, .int .u32 y3, .int .u32 v0, .int .u32 v1, .int .u32 v2, .int .u32 v3] 72 (0, 0))).drew
        obtain ⟨n5, hn5⟩ : ∃ n, W4.heap.size = n := ⟨_, rfl⟩
        rw [hn5] at HK3 HS5 hl5 ⊢
        have n1 : ¬ n4 = w.heap.size := by omega
        have n2 : ¬ w.heap.size = n4 := by omega
        have n3 : ¬ n5 = w.heap.size := by omega
        have n4' : ¬ w.heap.size = n5 := by omega
        have n5' : ¬ n4 = w.heap.size + 1 := by omega
        have n6 : ¬ w.heap.size + 1 = n4 := by omega
        have n7 : ¬ n5 = w.heap.size + 1 := by omega
        have n8 : ¬ w.heap.size + 1 = n5 := by omega
        obtain ⟨W5, hW5⟩ : ∃ W, (W4.alloc (.cells #[.int .u32 y0, .int .u32 y1, .int .u32 y2, .int .u32 y3, .int .u32 v0, .int .u32 v1, .int .u32 v2, .int .u32 v3] 72)).drew = W := ⟨_, rfl⟩
        rw [hW5] at HK3 ⊢
        clear hW5 hn4 hn5 c0 c1 c2 c3 s0 s1 s2 s3 f0 f1 f2 f3 f4 f5 f6 f7 g0 g1 g2 g3 g4 g5 g6 g7 h0 h1 h2 h3 k0 k1 k2 k3 HK1 HK2
        as_aux_lemma =>
          obtain ⟨f0, f1, f2, f3, f4, f5, f6, f7, _⟩ := cells8 (HK3.out.at 2 rfl)
          obtain ⟨g0, g1, g2, g3, g4, g5, g6, g7, _⟩ := cells8 (HK3.out.at 3 rfl)
          obtain ⟨s0, s1, s2, s3, h0, h1, h2, h3⟩ := cells4 (HK3.out.at 0 rfl)
          have oz := lvl_ok (a := [x0, x1, x2, x3]) (x := [u0, u1, u2, u3]) k OX.out OU.out
          have oz2 := lvl_ok (a := [y0, y1, y2, y3]) (x := [v0, v1, v2, v3]) k OY.out OV.out
          have cz := fun w => pair_ref [x0, x1, x2, x3] [u0, u1, u2, u3] w OX.out OU.out
          have cz2 := fun w => pair_ref [y0, y1, y2, y3] [v0, v1, v2, v3] w OY.out OV.out
          rw [← lvl_even HPAR.out] at cz cz2
          obtain ⟨z0, z1, z2, z3, ez, _⟩ := ok4 oz
          obtain ⟨t0, t1, t2, t3, et, _⟩ := ok4 oz2
          rw [ez] at oz cz
          rw [et] at oz2 cz2
          rw [ag4, ag4, ag4] at cz cz2
          have CZ := Lib.hid cz
          have CT := Lib.hid cz2
          have OZ := Lib.hid oz
          have OT := Lib.hid oz2
          have EZ := Lib.hid ez
          have ET := Lib.hid et
          clear cz cz2 oz oz2 ez et
          go_wp2_with fail
          refine (CZ.out _).mono ?_
          rintro e w5 ⟨rfl, hb⟩
          have HK4 := Lib.hid (HK3.out.after hb)
          clear hb f0 f1 f2 f3 f4 f5 f6 f7 g0 g1 g2 g3 g4 g5 g6 g7 s0 s1 s2 s3 h0 h1 h2 h3
          obtain ⟨g0, g1, g2, g3, g4, g5, g6, g7, _⟩ := cells8 (HK4.out.at 3 rfl)
          obtain ⟨s0, s1, s2, s3, h0, h1, h2, h3⟩ := cells4 (HK4.out.at 0 rfl)
          go_wp2_with fail
          refine (CT.out _).mono ?_
          rintro e w6 ⟨rfl, hb⟩
          as_aux_lemma =>
            have HK6 := Lib.hid ((HK4.out.put4 0 rfl (.inr (Nat.le_refl _)) (.int .u32 z0) (.int .u32 z1) (.int .u32 z2) (.int .u32 z3)).after hb)
            clear hb g0 g1 g2 g3 g4 g5 g6 g7 s0 s1 s2 s3 h0 h1 h2 h3
            obtain ⟨f0, f1, f2, f3, f4, f5, f6, f7, _⟩ := cells8 (HK6.out.at 2 rfl)
            obtain ⟨g0, g1, g2, g3, g4, g5, g6, g7, _⟩ := cells8 (HK6.out.at 3 rfl)
            obtain ⟨r0, r1, r2, r3, _⟩ := cells4 (HK6.out.at 0 rfl)
            obtain ⟨s0, s1, s2, s3, h0, h1, h2, h3⟩ := cells4 (HK6.out.at 1 rfl)
            have HK7 : Hid (Kd2 w _ [z0, z1, z2, z3] [t0, t1, t2, t3]) := Lib.hid ((HK6.out.put4 1 rfl (.inr HLW.out) (.int .u32 t0) (.int .u32 t1) (.int .u32 t2) (.int .u32 t3)).first 2)
            have HB2 := HB.out
            rw [drop_at EU.out, drop_at EV.out, ksh, EZ.out, ET.out] at HB2
            have hsp : sameP [x0, x1, x2, x3] [u0, u1, u2, u3] [y0, y1, y2, y3] [v0, v1, v2, v3] = (same [x0, x1, x2, x3] [y0, y1, y2, y3] && same [u0, u1, u2, u3] [v0, v1, v2, v3]) := rfl
            rw [← hsp] at HB2
            as_aux_lemma =>
              cases hb1 : sameP [x0, x1, x2, x3] [u0, u1, u2, u3] [y0, y1, y2, y3] [v0, v1, v2, v3] with
              | true =>
                have HB3 : Hid (ksh (k / 2) [z0, z1, z2, z3] (p.drop (j + 1)) [t0, t1, t2, t3] (q.drop (j + 1)) = bb) := Lib.hid (by rw [hb1] at HB2; simpa using HB2)
                clear HB2 hsp
                go_wp2_with fail
                go_roundw
                case rel => exact ⟨j + 1, k / 2, z0, z1, z2, z3, t0, t1, t2, t3, by omega, by omega, by go_num, by go_num, OZ, OT, HB3, HK7⟩
                case measure => simp [intOf]; omega
              | false =>
                cases hb2 : same [z0, z1, z2, z3] [t0, t1, t2, t3] with
                | true =>
                  have HB3 : Hid (bb = true) := Lib.hid (by rw [hb1, hb2] at HB2; simpa using HB2.symm)
                  clear HB2 hsp
                  go_wp2_with fail
                  go_ret
                  exact ⟨by rw [HB3.out]; rfl, HK7.out.be.plain⟩
                | false =>
                  have HB3 : Hid (ksh (k / 2) [z0, z1, z2, z3] (p.drop (j + 1)) [t0, t1, t2, t3] (q.drop (j + 1)) = bb) := Lib.hid (by rw [hb1, hb2] at HB2; simpa using HB2)
                  clear HB2 hsp
                  go_wp2_with fail
                  go_roundw
                  case rel => exact ⟨j + 1, k / 2, z0, z1, z2, z3, t0, t1, t2, t3, by omega, by omega, by go_num, by go_num, OZ, OT, HB3, HK7⟩
                  case measure => simp [intOf]; omega
      · have HPAR := Lib.hid (show k % 2 = 1 by omega)
        have e0 : ((k : Int) % 2 == 1) = true := by rw [beq_iff_eq]; omega
        have i3 : (0 : Int) ≤ (k : Int) := by omega
        clear hpar
        have HK1 := Lib.hid (HK2.out.more (.cells #[.int .u32 0, .int .u32 0, .int .u32 0, .int .u32 0, .int .u32 0, .int .u32 0, .int .u32 0, .int .u32 0] 72 (0, 0)))
        obtain ⟨c0, c1, c2, c3⟩ := (RQ.out.oldn HK1.out).four EV.out
        obtain ⟨h0, h1, h2, h3⟩ := (RQ.out.oldn HK2.out).four EV.out
        obtain ⟨k0, k1, k2, k3, _⟩ := cells4 (HK2.out.at 1 rfl)
        obtain ⟨s0, s1, s2, s3, _⟩ := cells4 (HK1.out.at 1 rfl)
        obtain ⟨f0, f1, f2, f3, f4, f5, f6, f7, g0, g1, g2, g3, g4, g5, g6, g7⟩ := cells8 (HK1.out.at 3 rfl)
        have HS5 := Lib.hid HK2.out.be.size
        go_region
        have HK3 := Lib.hid (HK2.out.more (.cells #[.int .u32 y0, .int .u32 y1, .int .u32 y2, .int .u32 y3, .int .u32 v0, .int .u32 v1, .int .u32 v2, .int .u32 v3] 72 (0, 0))).drew
        obtain ⟨n5, hn5⟩ : ∃ n, W4.heap.size = n := ⟨_, rfl⟩
        rw [hn5] at HK3 HS5 hl5 ⊢
        have n1 : ¬ n4 = w.heap.size := by omega
        have n2 : ¬ w.heap.size = n4 := by omega
        have n3 : ¬ n5 = w.heap.size := by omega
        have n4' : ¬ w.heap.size = n5 := by omega
        have n5' : ¬ n4 = w.heap.size + 1 := by omega
        have n6 : ¬ w.heap.size + 1 = n4 := by omega
        have n7 : ¬ n5 = w.heap.size + 1 := by omega
        have n8 : ¬ w.heap.size + 1 = n5 := by omega
        obtain ⟨W5, hW5⟩ : ∃ W, (W4.alloc (.cells #[.int .u32 y0, .int .u32 y1, .int .u32 y2, .int .u32 y3, .int .u32 v0, .int .u32 v1, .int .u32 v2, .int .u32 v3] 72)).drew = W := ⟨_, rfl⟩
        rw [hW5] at HK3 ⊢
        clear hW5 hn4 hn5 c0 c1 c2 c3 s0 s1 s2 s3 f0 f1 f2 f3 f4 f5 f6 f7 g0 g1 g2 g3 g4 g5 g6 g7 h0 h1 h2 h3 k0 k1 k2 k3 HK1 HK2
        obtain ⟨c0, c1, c2, c3⟩ := (RP.out.oldn HK3.out).four EU.out
        obtain ⟨s0, s1, s2, s3, _⟩ := cells4 (HK3.out.at 0 rfl)
        obtain ⟨f0, f1, f2, f3, f4, f5, f6, f7, g0, g1, g2, g3, g4, g5, g6, g7⟩ := cells8 (HK3.out.at 2 rfl)
        go_wp2_with fail
        go_region
        have HK8 := Lib.hid (HK3.out.put8 2 rfl (.inr HS.out) (.int .u32 u0) (.int .u32 u1) (.int .u32 u2) (.int .u32 u3) (.int .u32 x0) (.int .u32 x1) (.int .u32 x2) (.int .u32 x3)).drew
        obtain ⟨W8, hW8⟩ : ∃ W, ((((((((W5.setCell ⟨n4, 0, none⟩ (.int .u32 u0)).setCell ⟨n4, 1, none⟩ (.int .u32 u1)).setCell ⟨n4, 2, none⟩ (.int .u32 u2)).setCell ⟨n4, 3, none⟩ (.int .u32 u3)).setCell ⟨n4, 4, none⟩ (.int .u32 x0)).setCell ⟨n4, 5, none⟩ (.int .u32 x1)).setCell ⟨n4, 6, none⟩ (.int .u32 x2)).setCell ⟨n4, 7, none⟩ (.int .u32 x3)).drew = W := ⟨_, rfl⟩
        rw [hW8] at HK8 ⊢
        replace HK8 : Hid (Kx none w W8 [(w.heap.size, .cells #[.int .u32 x0, .int .u32 x1, .int .u32 x2, .int .u32 x3] 24 (0, 0)), (w.heap.size + 1, .cells #[.int .u32 y0, .int .u32 y1, .int .u32 y2, .int .u32 y3] 24 (0, 0)), (n4, .cells #[.int .u32 u0, .int .u32 u1, .int .u32 u2, .int .u32 u3, .int .u32 x0, .int .u32 x1, .int .u32 x2, .int .u32 x3] 72 (0, 0)), (n5, .cells #[.int .u32 y0, .int .u32 y1, .int .u32 y2, .int .u32 y3, .int .u32 v0, .int .u32 v1, .int .u32 v2, .int .u32 v3] 72 (0, 0))]) := HK8
        clear hW8 c0 c1 c2 c3 s0 s1 s2 s3 f0 f1 f2 f3 f4 f5 f6 f7 g0 g1 g2 g3 g4 g5 g6 g7 HK3
        obtain ⟨c0, c1, c2, c3⟩ := (RQ.out.oldn HK8.out).four EV.out
        obtain ⟨s0, s1, s2, s3, _⟩ := cells4 (HK8.out.at 1 rfl)
        obtain ⟨f0, f1, f2, f3, f4, f5, f6, f7, g0, g1, g2, g3, g4, g5, g6, g7⟩ := cells8 (HK8.out.at 3 rfl)
        go_wp2_with fail
        go_region
        have HK9 := Lib.hid (HK8.out.put8 3 rfl (.inr HS5.out) (.int .u32 v0) (.int .u32 v1) (.int .u32 v2) (.int .u32 v3) (.int .u32 y0) (.int .u32 y1) (.int .u32 y2) (.int .u32 y3)).drew
        obtain ⟨W9, hW9⟩ : ∃ W, ((((((((W8.setCell ⟨n5, 0, none⟩ (.int .u32 v0)).setCell ⟨n5, 1, none⟩ (.int .u32 v1)).setCell ⟨n5, 2, none⟩ (.int .u32 v2)).setCell ⟨n5, 3, none⟩ (.int .u32 v3)).setCell ⟨n5, 4, none⟩ (.int .u32 y0)).setCell ⟨n5, 5, none⟩ (.int .u32 y1)).setCell ⟨n5, 6, none⟩ (.int .u32 y2)).setCell ⟨n5, 7, none⟩ (.int .u32 y3)).drew = W := ⟨_, rfl⟩
        rw [hW9] at HK9 ⊢
        replace HK9 : Hid (Kx none w W9 [(w.heap.size, .cells #[.int .u32 x0, .int .u32 x1, .int .u32 x2, .int .u32 x3] 24 (0, 0)), (w.heap.size + 1, .cells #[.int .u32 y0, .int .u32 y1, .int .u32 y2, .int .u32 y3] 24 (0, 0)), (n4, .cells #[.int .u32 u0, .int .u32 u1, .int .u32 u2, .int .u32 u3, .int .u32 x0, .int .u32 x1, .int .u32 x2, .int .u32 x3] 72 (0, 0)), (n5, .cells #[.int .u32 v0, .int .u32 v1, .int .u32 v2, .int .u32 v3, .int .u32 y0, .int .u32 y1, .int .u32 y2, .int .u32 y3] 72 (0, 0))]) := HK9
        clear hW9 c0 c1 c2 c3 s0 s1 s2 s3 f0 f1 f2 f3 f4 f5 f6 f7 g0 g1 g2 g3 g4 g5 g6 g7 HK8
        as_aux_lemma =>
          obtain ⟨f0, f1, f2, f3, f4, f5, f6, f7, _⟩ := cells8 (HK9.out.at 2 rfl)
          obtain ⟨g0, g1, g2, g3, g4, g5, g6, g7, _⟩ := cells8 (HK9.out.at 3 rfl)
          obtain ⟨s0, s1, s2, s3, h0, h1, h2, h3⟩ := cells4 (HK9.out.at 0 rfl)
          have oz := lvl_ok (a := [x0, x1, x2, x3]) (x := [u0, u1, u2, u3]) k OX.out OU.out
          have oz2 := lvl_ok (a := [y0, y1, y2, y3]) (x := [v0, v1, v2, v3]) k OY.out OV.out
          have cz := fun w => pair_ref [u0, u1, u2, u3] [x0, x1, x2, x3] w OU.out OX.out
          have cz2 := fun w => pair_ref [v0, v1, v2, v3] [y0, y1, y2, y3] w OV.out OY.out
          rw [← lvl_odd HPAR.out] at cz cz2
          obtain ⟨z0, z1, z2, z3, ez, _⟩ := ok4 oz
          obtain ⟨t0, t1, t2, t3, et, _⟩ := ok4 oz2
          rw [ez] at oz cz
          rw [et] at oz2 cz2
          rw [ag4, ag4, ag4] at cz cz2
          have CZ := Lib.hid cz
          have CT := Lib.hid cz2
          have OZ := Lib.hid oz
          have OT := Lib.hid oz2
          have EZ := Lib.hid ez
          have ET := Lib.hid et
          clear cz cz2 oz oz2 ez et
          go_wp2_with fail
          refine (CZ.out _).mono ?_
          rintro e w5 ⟨rfl, hb⟩
          have HK4 := Lib.hid (HK9.out.after hb)
          clear hb f0 f1 f2 f3 f4 f5 f6 f7 g0 g1 g2 g3 g4 g5 g6 g7 s0 s1 s2 s3 h0 h1 h2 h3
          obtain ⟨g0, g1, g2, g3, g4, g5, g6, g7, _⟩ := cells8 (HK4.out.at 3 rfl)
          obtain ⟨s0, s1, s2, s3, h0, h1, h2, h3⟩ := cells4 (HK4.out.at 0 rfl)
          go_wp2_with fail
          refine (CT.out _).mono ?_
          rintro e w6 ⟨rfl, hb⟩
          as_aux_lemma =>
            have HK6 := Lib.hid ((HK4.out.put4 0 rfl (.inr (Nat.le_refl _)) (.int .u32 z0) (.int .u32 z1) (.int .u32 z2) (.int .u32 z3)).after hb)
            clear hb g0 g1 g2 g3 g4 g5 g6 g7 s0 s1 s2 s3 h0 h1 h2 h3
            obtain ⟨f0, f1, f2, f3, f4, f5, f6, f7, _⟩ := cells8 (HK6.out.at 2 rfl)
            obtain ⟨g0, g1, g2, g3, g4, g5, g6, g7, _⟩ := cells8 (HK6.out.at 3 rfl)
            obtain ⟨r0, r1, r2, r3, _⟩ := cells4 (HK6.out.at 0 rfl)
            obtain ⟨s0, s1, s2, s3, h0, h1, h2, h3⟩ := cells4 (HK6.out.at 1 rfl)
            have HK7 : Hid (Kd2 w _ [z0, z1, z2, z3] [t0, t1, t2, t3]) := Lib.hid ((HK6.out.put4 1 rfl (.inr HLW.out) (.int .u32 t0) (.int .u32 t1) (.int .u32 t2) (.int .u32 t3)).first 2)
            have HB2 := HB.out
            rw [drop_at EU.out, drop_at EV.out, ksh, EZ.out, ET.out] at HB2
            have hsp : sameP [u0, u1, u2, u3] [x0, x1, x2, x3] [v0, v1, v2, v3] [y0, y1, y2, y3] = (same [x0, x1, x2, x3] [y0, y1, y2, y3] && same [u0, u1, u2, u3] [v0, v1, v2, v3]) := by unfold sameP; rw [Bool.and_comm]
            rw [← hsp] at HB2
            as_aux_lemma =>
              cases hb1 : sameP [u0, u1, u2, u3] [x0, x1, x2, x3] [v0, v1, v2, v3] [y0, y1, y2, y3] with
              | true =>
                have HB3 : Hid (ksh (k / 2) [z0, z1, z2, z3] (p.drop (j + 1)) [t0, t1, t2, t3] (q.drop (j + 1)) = bb) := Lib.hid (by rw [hb1] at HB2; simpa using HB2)
                clear HB2 hsp
                go_wp2_with fail
                go_roundw
                case rel => exact ⟨j + 1, k / 2, z0, z1, z2, z3, t0, t1, t2, t3, by omega, by omega, by go_num, by go_num, OZ, OT, HB3, HK7⟩
                case measure => simp [intOf]; omega
              | false =>
                cases hb2 : same [z0, z1, z2, z3] [t0, t1, t2, t3] with
                | true =>
                  have HB3 : Hid (bb = true) := Lib.hid (by rw [hb1, hb2] at HB2; simpa using HB2.symm)
                  clear HB2 hsp
                  go_wp2_with fail
                  go_ret
                  exact ⟨by rw [HB3.out]; rfl, HK7.out.be.plain⟩
                | false =>
                  have HB3 : Hid (ksh (k / 2) [z0, z1, z2, z3] (p.drop (j + 1)) [t0, t1, t2, t3] (q.drop (j + 1)) = bb) := Lib.hid (by rw [hb1, hb2] at HB2; simpa using HB2)
                  clear HB2 hsp
                  go_wp2_with fail
                  go_roundw
                  case rel => exact ⟨j + 1, k / 2, z0, z1, z2, z3, t0, t1, t2, t3, by omega, by omega, by go_num, by go_num, OZ, OT, HB3, HK7⟩
                  case measure => simp [intOf]; omega
    · obtain rfl : j = m := by omega
      have HBB : Hid (bb = false) := Lib.hid (by have h := HB.out; rw [List.drop_of_length_le (by rw [HP.out]; omega)] at h; exact h.symm)
      have u0 : ¬ (j : Int) < (j : Int) := by omega
      go_wp2_with fail
      go_ret
      exact ⟨by rw [HBB.out]; rfl, HK.out.be.plain⟩
end Go.Proofs.YtfbefenagnlnfaaDoor
