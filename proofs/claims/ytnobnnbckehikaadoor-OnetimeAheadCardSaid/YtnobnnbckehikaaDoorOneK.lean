/- The public key that values reach: the contract of the reference's Reach. -/
import Derived.Test.YtnobnnbckehikaaDoorOneI
import Derived.Test.YtnobnnbckehikaaDoorOneJ
set_option linter.unusedVariables false
namespace Go.Proofs.YtnobnnbckehikaaDoor
open Go.RowKit

set_option maxRecDepth 100000 in
set_option maxHeartbeats 2000000 in
theorem reachr_no {A : Option Addr} {n cap : Nat} (msg : Ws) (w : World) (hm : Ok4 msg) (hn : n ≠ 35) (hn' : n ≤ 9223372036854775807) :
    Calls Tryd.prog 21 #[ag msg, .slice A n cap] w fun e w' => e = .returned (.tuple #[.agg #[.int .u32 0, .int .u32 0, .int .u32 0, .int .u32 0], .bool false]) ∧ Below w.heap.size w w' := by
  obtain ⟨y0, y1, y2, y3, ey, _⟩ := ok4 hm
  rw [ey, ag4]
  have i0 : ((n : Int) != 35) = true := by rw [bne_iff_ne]; omega
  have HK := Lib.hid (((Kx.nil none w).more (.cells #[.int .u32 y0, .int .u32 y1, .int .u32 y2, .int .u32 y3] 24 (0, 0))).add (w.heap.size + 1) (by simp) (.cells #[.int .u32 0, .int .u32 0, .int .u32 0, .int .u32 0] 24 (0, 0)))
  clear ey hm
  go_enter Tryd.func21, Tryd.ntmps21
  go_wp2_with fail
  exact bodyPost_ret (v := .tuple #[.agg #[.int .u32 0, .int .u32 0, .int .u32 0, .int .u32 0], .bool false]) (by
    obtain ⟨k0, k1, k2, k3, _⟩ := cells4 (HK.out.at 1 rfl)
    simp [results, go_sem, k0, k1, k2, k3]) rfl ⟨rfl, HK.out.be.plain⟩
set_option maxRecDepth 100000 in
set_option maxHeartbeats 4000000 in
theorem reachr_row {b off cap : Nat} {l : Dl} (msg : Ws) (w : World) (hm : Ok4 msg) (hl : l.length = 35) (hc : 35 ≤ cap) (hr : DRow w b off l) :
    Calls Tryd.prog 21 #[ag msg, .slice (some ⟨b, off, none⟩) 35 cap] w fun e w' => e = .returned (.tuple #[ag (rch msg l), .bool true]) ∧ Below w.heap.size w w' := by
  have o := rch_ok (msg := msg) hr.ok hl
  have c1 := fun w => steps_ref msg w hm
  have c2 := fun b cap w hr => ofr_row (upto (rci msg l) 35) b 0 cap w (upto_length _ _) hr
  have he := fun (i : Nat) (hi : i < 35) => ok4 (rci_ok (msg := msg) hr.ok hl hi)
  have huo : ∀ j, j ≤ 35 → Oks (upto (rci msg l) j) := fun j hj => upto_ok fun i hi => rci_ok hr.ok hl (by omega)
  have HE := Lib.hid he
  have HUO := Lib.hid huo
  have HN := Lib.hid (nms_get msg)
  have HNL := Lib.hid (nms_length hm)
  have HR := Lib.hid hr
  have HL := Lib.hid hl
  have hbw := hr.lt
  change Calls _ _ _ _ fun e w' => e = .returned (.tuple #[ag (pof (upto (rci msg l) 35)), .bool true]) ∧ _
  change Ok4 (pof (upto (rci msg l) 35)) at o
  obtain ⟨p0, p1, p2, p3, ep, _⟩ := ok4 o
  rw [ep] at c2 ⊢
  obtain ⟨y0, y1, y2, y3, ey, _⟩ := ok4 hm
  rw [show ag msg = .agg #[.int .u32 y0, .int .u32 y1, .int .u32 y2, .int .u32 y3] by rw [ey, ag4]] at c1 ⊢
  rw [ag4] at c2 ⊢
  have C1 := Lib.hid c1
  have C2 := Lib.hid c2
  have HK0 : Hid (Ks w ((w.alloc (.cells #[.int .u32 y0, .int .u32 y1, .int .u32 y2, .int .u32 y3] 24)).alloc (.cells #[.int .u32 0, .int .u32 0, .int .u32 0, .int .u32 0] 24)) [y0, y1, y2, y3]) :=
    Lib.hid (((Kx.nil none w).more (.cells #[.int .u32 y0, .int .u32 y1, .int .u32 y2, .int .u32 y3] 24 (0, 0))).add (w.heap.size + 1) (by simp) (.cells #[.int .u32 0, .int .u32 0, .int .u32 0, .int .u32 0] 24 (0, 0)))
  obtain ⟨q0, hz, hz0, hz1, hz2⟩ := info_parts infoDg
  clear c1 c2 he huo o ep ey hm hr hl
  go_enter Tryd.func21, Tryd.ntmps21
  go_wp2_with fail
  refine (C1.out _).mono ?_
  rintro e w1 ⟨g1, c1, rfl, _, _, hir, hg1, hb⟩
  have HI := Lib.hid hir
  have HK : Hid (Ks w w1 [y0, y1, y2, y3]) := Lib.hid (HK0.out.after hb)
  clear hb hir hg1
  go_wp2_with fail
  go_loopw [7, 8] (fun out v wr => ∃ j : Nat, j ≤ 35 ∧ v = .int .i64 (j : Int) ∧ Hid (Ks w wr [y0, y1, y2, y3]) ∧ Hid (wr.ownsRow (w.heap.size + 2) 24 4 out j (mcs (upto (rci msg l) j))) ∧ Hid (IRow wr g1 (nms msg))) (fun _ v _ => 35 - (intOf v).toNat)
  case atStart => exact ⟨0, Nat.zero_le _, rfl, HK, World.ownsRow_nil _ _ _ _, HI⟩
  case round =>
    obtain ⟨j, hj, rfl, HK, HO, HI⟩ := hrel
    by_cases hlt : j < 35
    · have i0 : (0 : Int) ≤ (j : Int) := by omega
      have i1 : (j : Int) < 35 := by omega
      obtain ⟨z0, z1, z2, z3, ez, _⟩ := HE.out j hlt
      have hg := List.getElem?_eq_getElem (l := l) (i := j) (by rw [HL.out]; exact hlt)
      have ob := HR.out.ok _ (List.getElem_mem (l := l) (n := j) (by rw [HL.out]; exact hlt))
      obtain ⟨b0, b1, b2, b3, eb, _⟩ := ok4 ob
      rw [eb] at hg ob
      obtain ⟨u0, u1, u2, u3⟩ := (HR.out.oldn HK.out).four hg
      have hd := HN.out j
      have hc := HI.out.at_ j (by rw [HNL.out]; exact hlt)
      have ew : wk (15 - (nms msg).getD j 0) [b0, b1, b2, b3] = [z0, z1, z2, z3] := by
        have hgd : l.getD j [] = [b0, b1, b2, b3] := by rw [List.getD_eq_getElem?_getD, hg]; rfl
        rw [← ez, rci, hgd]
      obtain ⟨d, ed⟩ : ∃ d, (nms msg).getD j 0 = d := ⟨_, rfl⟩
      rw [ed] at hd hc ew
      have cw := fun W => walk_ref [b0, b1, b2, b3] (15 - d) W ob (by omega)
      rw [ew, ag4, ag4, show ((15 - d : Nat) : Int) = 15 - (d : Int) by omega] at cw
      have CW := Lib.hid cw
      have hw15 : IntKind.i64.wrap (15 - (d : Int)) = 15 - (d : Int) := by rw [IntKind.wrap_i64]; omega
      have HZ := Lib.hid (upto_cells (rci msg l) j ez)
      clear cw ob eb ew ez hg ed
      replace HK : Hid (Ks w wr.drew [y0, y1, y2, y3]) := Lib.hid HK.out.drew
      replace HO : Hid (wr.drew.ownsRow (w.heap.size + 2) 24 4 _ j (mcs (upto (rci msg l) j))) := Lib.hid HO.out.drew
      replace HI := Lib.hid HI.out.drew
      go_wp2_with fail
      go_region_law (first
        | (go_simp; go_at_call 24; (with_reducible refine (CW.out _).mono ?_); rintro e w3 ⟨rfl, hb⟩; replace HK : Hid (Ks w w3 [y0, y1, y2, y3]) := Lib.hid (HK.out.after hb); replace HO := Lib.hid (own_keep HO.out hb); replace HI := Lib.hid (HI.out.kept hb); clear hb)
        | (refine step_append_lies _ (by rfl) _ _ _ (by rfl) (w.heap.size + 2) 24 q0 _ 4 16 Tryd.underlying32 hz hz0 hz1 hz2 rfl (by omega) _ j (mcs (upto (rci msg l) j)) (by rfl) (HO.out.alloc _)
            ⟨_, 0, none⟩ 1 1 [.int .u32 z0, .int .u32 z1, .int .u32 z2, .int .u32 z3] (by rfl) (by rfl)
            (World.news_of_block (cs := #[.int .u32 z0, .int .u32 z1, .int .u32 z2, .int .u32 z3]) (t := 24) (fr := (0, 0)) (heap_alloc_new _ _)) (by simp [Value.oneCell'])
            (by omega) (by unfold maxLen; omega) (by omega) (by have := HK.out.lt 1 rfl; simp; omega) _ rfl ?_; intro gg cap2 w4 hown1 hgrow1 hat hlt1))
      all_goals
        rw [← HZ.out] at hown1
        have HO2 := Lib.hid hown1
        have HK2 := Lib.hid (HK.out.grow _ hgrow1 (fun g hg => (HO.out.lt g hg).1))
        have HI2 := Lib.hid ((HI.out.kept ((Below.refl _ _).alloc (Nat.le_refl _) _)).grow hgrow1 (e := 24) (by decide) (own_ty (HO.out.alloc _)))
        clear hown1 hgrow1 hat
        go_wp2_with fail
        go_roundw
        case rel => exact ⟨j + 1, by omega, by go_num, HK2, HO2, HI2⟩
        case measure => simp [intOf]; omega
    · obtain rfl : j = 35 := by omega
      obtain ⟨g, cap, rfl, hg, _⟩ := own_shape4 HO.out (by omega)
      have HD := Lib.hid (DRow.own HO.out (HUO.out 35 (Nat.le_refl _)))
      go_wp2_with fail
      refine (C2.out _ _ _ HD.out).mono ?_
      rintro e w4 ⟨rfl, hb⟩
      replace HK : Hid (Ks w w4 [y0, y1, y2, y3]) := Lib.hid (HK.out.after hb)
      clear hb
      obtain ⟨b0, b1, b2, b3, d0, d1, d2, d3⟩ := cells4 (HK.out.at 1 rfl)
      have HRR := Lib.hid (row4 (HK.out.at 1 rfl) (.int .u32 p0) (.int .u32 p1) (.int .u32 p2) (.int .u32 p3))
      have HEE := Lib.hid (HK.out.put4 1 rfl (.inr (by omega)) (.int .u32 p0) (.int .u32 p1) (.int .u32 p2) (.int .u32 p3)).be.plain
      go_wp2_with fail
      exact bodyPost_ret (v := .tuple #[.agg #[.int .u32 p0, .int .u32 p1, .int .u32 p2, .int .u32 p3], .bool true]) (by
        obtain ⟨k0, k1, k2, k3, _⟩ := cells4 HRR.out
        simp [results, go_sem, k0, k1, k2, k3]) rfl ⟨rfl, HEE.out⟩
end Go.Proofs.YtnobnnbckehikaaDoor
