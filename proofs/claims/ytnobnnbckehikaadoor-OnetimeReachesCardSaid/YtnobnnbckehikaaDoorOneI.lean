/- A signature: the contract of the reference's Sign. -/
import Derived.Test.YtnobnnbckehikaaDoorOneH
set_option linter.unusedVariables false
namespace Go.Proofs.YtnobnnbckehikaaDoor
open Go.RowKit

set_option maxRecDepth 100000 in
set_option maxHeartbeats 4000000 in
theorem sign_ref (seed msg : Ws) (w : World) (hs : Ok4 seed) (hm : Ok4 msg) :
    Calls Tryd.prog 18 #[ag seed, ag msg] w (DgE w (sgn seed msg)) := by
  have c1 := fun i w hi => begin_ref seed i w hs hi
  have c2 := fun w => steps_ref msg w hm
  have he := fun (i : Nat) (hi : i < 35) => ok4 (sgi_ok hs (msg := msg) (i := i) hi)
  have hbo := fun (i : Nat) (hi : i < 35) => bgn_ok hs (i := i) (by omega)
  have huo : ∀ j, j ≤ 35 → Oks (upto (sgi seed msg) j) := fun j hj => upto_ok fun i hi => sgi_ok hs (by omega)
  have hn := nms_get msg
  have hnl := nms_length hm
  have HE := Lib.hid he
  have HBO := Lib.hid hbo
  have HUO := Lib.hid huo
  have HN := Lib.hid hn
  have HNL := Lib.hid hnl
  obtain ⟨x0, x1, x2, x3, ex, _⟩ := ok4 hs
  obtain ⟨y0, y1, y2, y3, ey, _⟩ := ok4 hm
  rw [show ag seed = .agg #[.int .u32 x0, .int .u32 x1, .int .u32 x2, .int .u32 x3] by rw [ex, ag4]] at c1 ⊢
  rw [show ag msg = .agg #[.int .u32 y0, .int .u32 y1, .int .u32 y2, .int .u32 y3] by rw [ey, ag4]] at c2 ⊢
  have C1 := Lib.hid c1
  have C2 := Lib.hid c2
  have HK0 : Hid (Km w ((w.alloc (.cells #[.int .u32 x0, .int .u32 x1, .int .u32 x2, .int .u32 x3] 24)).alloc (.cells #[.int .u32 y0, .int .u32 y1, .int .u32 y2, .int .u32 y3] 24)) [x0, x1, x2, x3] [y0, y1, y2, y3]) :=
    Lib.hid (((Kx.nil none w).more (.cells #[.int .u32 x0, .int .u32 x1, .int .u32 x2, .int .u32 x3] 24 (0, 0))).add (w.heap.size + 1) (by simp) (.cells #[.int .u32 y0, .int .u32 y1, .int .u32 y2, .int .u32 y3] 24 (0, 0)))
  obtain ⟨q0, hz, hz0, hz1, hz2⟩ := info_parts infoDg
  clear c1 c2 he hbo huo hn hnl ex ey hs hm
  go_enter Tryd.func18, Tryd.ntmps18
  obtain ⟨m0, m1, m2, m3, _⟩ := cells4 (HK0.out.at 1 rfl)
  go_wp2_with fail
  refine (C2.out _).mono ?_
  rintro e w1 ⟨g1, c1, rfl, _, _, hir, _, hb⟩
  have HI := Lib.hid hir
  have HK : Hid (Km w w1 [x0, x1, x2, x3] [y0, y1, y2, y3]) := Lib.hid (HK0.out.after hb)
  clear hb hir m0 m1 m2 m3
  go_wp2_with fail
  go_loopw [6, 7] (fun out v wr => ∃ j : Nat, j ≤ 35 ∧ v = .int .i64 (j : Int) ∧ Hid (Km w wr [x0, x1, x2, x3] [y0, y1, y2, y3]) ∧ Hid (wr.ownsRow (w.heap.size + 2) 24 4 out j (mcs (upto (sgi seed msg) j))) ∧ Hid (IRow wr g1 (nms msg))) (fun _ v _ => 35 - (intOf v).toNat)
  case atStart => exact ⟨0, Nat.zero_le _, rfl, HK, World.ownsRow_nil _ _ _ _, HI⟩
  case round =>
    obtain ⟨j, hj, rfl, HK, HO, HI⟩ := hrel
    by_cases hlt : j < 35
    · have i0 : (0 : Int) ≤ (j : Int) := by omega
      have i1 : (j : Int) < 35 := by omega
      obtain ⟨z0, z1, z2, z3, ez, _⟩ := HE.out j hlt
      have ob := HBO.out j hlt
      have c1 := fun w => C1.out j w hlt
      obtain ⟨b0, b1, b2, b3, eb, _⟩ := ok4 ob
      rw [eb, ag4] at c1
      rw [eb] at ob
      have hd := HN.out j
      have hc := HI.out.at_ j (by rw [HNL.out]; exact hlt)
      have ew : wk ((nms msg).getD j 0) [b0, b1, b2, b3] = [z0, z1, z2, z3] := by rw [← eb]; exact ez
      obtain ⟨d, ed⟩ : ∃ d, (nms msg).getD j 0 = d := ⟨_, rfl⟩
      rw [ed] at hd hc ew
      have cw := fun W => walk_ref [b0, b1, b2, b3] d W ob (by omega)
      rw [ew, ag4, ag4] at cw
      have CB := Lib.hid c1
      have CW := Lib.hid cw
      have ED := Lib.hid ed
      have HZ := Lib.hid (upto_cells (sgi seed msg) j ez)
      clear c1 cw ob eb ew ez ed
      obtain ⟨a0, a1, a2, a3, _⟩ := cells4 (HK.out.at 0 rfl)
      replace HK : Hid (Km w wr.drew [x0, x1, x2, x3] [y0, y1, y2, y3]) := Lib.hid HK.out.drew
      replace HO : Hid (wr.drew.ownsRow (w.heap.size + 2) 24 4 _ j (mcs (upto (sgi seed msg) j))) := Lib.hid HO.out.drew
      replace HI := Lib.hid HI.out.drew
      go_wp2_with fail
      go_region_law (first
        | (go_simp; go_at_call 31; (with_reducible refine (CB.out _).mono ?_); rintro e w2 ⟨rfl, hb⟩; replace HK : Hid (Km w w2 [x0, x1, x2, x3] [y0, y1, y2, y3]) := Lib.hid (HK.out.after hb); replace HO := Lib.hid (own_keep HO.out hb); replace HI := Lib.hid (HI.out.kept hb); clear hb; have hc := HI.out.at_ j (by rw [HNL.out]; exact hlt); rw [ED.out] at hc)
        | (go_simp; go_at_call 24; (with_reducible refine (CW.out _).mono ?_); rintro e w3 ⟨rfl, hb⟩; replace HK : Hid (Km w w3 [x0, x1, x2, x3] [y0, y1, y2, y3]) := Lib.hid (HK.out.after hb); replace HO := Lib.hid (own_keep HO.out hb); replace HI := Lib.hid (HI.out.kept hb); clear hb)
        | (refine step_append_lies _ (by rfl) _ _ _ (by rfl) (w.heap.size + 2) 24 q0 _ 4 16 Tryd.underlying33 hz hz0 hz1 hz2 rfl (by omega) _ j (mcs (upto (sgi seed msg) j)) (by rfl) (HO.out.alloc _)
            ⟨_, 0, none⟩ 1 1 [.int .u32 z0, .int .u32 z1, .int .u32 z2, .int .u32 z3] (by rfl) (by rfl)
            (World.news_of_block (cs := #[.int .u32 z0, .int .u32 z1, .int .u32 z2, .int .u32 z3]) (t := 24) (fr := (0, 0)) (heap_alloc_new _ _)) (by simp [Value.oneCell'])
            (by omega) (by unfold maxLen; omega) (by omega) (by have := HK.out.lt 1 rfl; simp; omega) _ rfl ?_; intro gg cap2 w4 hown1 hgrow1 hat hlt1))
      all_goals
        rw [← HZ.out] at hown1
        have HO2 := Lib.hid hown1
        have HK2 := Lib.hid (HK.out.grow _ hgrow1 (fun g hg => (HO.out.lt g hg).1))
        have HI2 := Lib.hid ((HI.out.kept ((Below.refl _ _).alloc (Nat.le_refl _) _)).grow hgrow1 (e := 24) (by decide) (own_ty (HO.out.alloc _)))
        clear hown1 hgrow1 hat
        go_wp2_with fail
        go_roundw
        case rel => exact ⟨j + 1, by omega, by go_num, HK2, HO2, HI2⟩
        case measure => simp [intOf]; omega
    · obtain rfl : j = 35 := by omega
      obtain ⟨g, cap, rfl, hg, h1, h2⟩ := own_shape4 HO.out (by omega)
      have HD := Lib.hid (DRow.own HO.out (HUO.out 35 (Nat.le_refl _)))
      go_wp2_with fail
      go_ret
      exact ⟨g, cap, rfl, h1, h2, HD.out, by omega, HK.out.be.plain⟩
end Go.Proofs.YtnobnnbckehikaaDoor
