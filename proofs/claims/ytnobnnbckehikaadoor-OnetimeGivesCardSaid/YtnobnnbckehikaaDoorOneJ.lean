/- The public key that values reach: the contract of onetime's Reach. -/
import Derived.Test.YtnobnnbckehikaaDoorOneH
set_option linter.unusedVariables false
namespace Go.Proofs.YtnobnnbckehikaaDoor
open Go.RowKit

theorem IRow.set4 {w : World} {g : Nat} {l : List Nat} (h : IRow w g l) {b : Nat} (hb : b ≠ g) (o0 o1 o2 o3 : Nat) (v0 v1 v2 v3 : Value) : IRow ((((w.setCell ⟨b, o0, none⟩ v0).setCell ⟨b, o1, none⟩ v1).setCell ⟨b, o2, none⟩ v2).setCell ⟨b, o3, none⟩ v3) g l :=
  (((h.set (p := ⟨b, o0, none⟩) hb v0).set (p := ⟨b, o1, none⟩) hb v1).set (p := ⟨b, o2, none⟩) hb v2).set (p := ⟨b, o3, none⟩) hb v3
set_option maxRecDepth 100000 in
set_option maxHeartbeats 2000000 in
theorem reach_no {A : Option Addr} {n cap : Nat} (msg : Ws) (w : World) (hm : Ok4 msg) (hn : n ≠ 35) (hn' : n ≤ 9223372036854775807) :
    Calls Tryd.prog 19 #[ag msg, .slice A n cap] w fun e w' => e = .returned (.tuple #[.agg #[.int .u32 0, .int .u32 0, .int .u32 0, .int .u32 0], .bool false]) ∧ Below w.heap.size w w' := by
  obtain ⟨y0, y1, y2, y3, ey, _⟩ := ok4 hm
  rw [ey, ag4]
  have i0 : ((n : Int) != 35) = true := by rw [bne_iff_ne]; omega
  have HK := Lib.hid (((Kx.nil none w).more (.cells #[.int .u32 y0, .int .u32 y1, .int .u32 y2, .int .u32 y3] 24 (0, 0))).add (w.heap.size + 1) (by simp) (.cells #[.int .u32 0, .int .u32 0, .int .u32 0, .int .u32 0] 24 (0, 0)))
  clear ey hm
  go_enter Tryd.func19, Tryd.ntmps19
  go_wp2_with fail
  exact bodyPost_ret (v := .tuple #[.agg #[.int .u32 0, .int .u32 0, .int .u32 0, .int .u32 0], .bool false]) (by
    obtain ⟨k0, k1, k2, k3, _⟩ := cells4 (HK.out.at 1 rfl)
    simp [results, go_sem, k0, k1, k2, k3]) rfl ⟨rfl, HK.out.be.plain⟩
set_option maxRecDepth 100000 in
set_option maxHeartbeats 4000000 in
theorem reach_row {b off cap : Nat} {l : Dl} (msg : Ws) (w : World) (hm : Ok4 msg) (hl : l.length = 35) (hc : 35 ≤ cap) (hr : DRow w b off l) (ht : Tabs w) :
    Calls Tryd.prog 19 #[ag msg, .slice (some ⟨b, off, none⟩) 35 cap] w fun e w' => e = .returned (.tuple #[ag (rch msg l), .bool true]) ∧ Below w.heap.size w w' := by
  have o := rch_ok (msg := msg) hr.ok hl
  have c1 := fun w => steps_code msg w hm
  have c2 := fun w ht => publicOf_code (upto (rci msg l) 35) w (upto_ok fun i hi => rci_ok hr.ok hl hi) (upto_length _ _) ht
  have he := fun (i : Nat) (hi : i < 35) => ok4 (rci_ok (msg := msg) hr.ok hl hi)
  have huo : ∀ j, j ≤ 35 → Oks (upto (rci msg l) j) := fun j hj => upto_ok fun i hi => rci_ok hr.ok hl (by omega)
  have HE := Lib.hid he
  have HUO := Lib.hid huo
  have HN := Lib.hid (nms_get msg)
  have HNL := Lib.hid (nms_length hm)
  have HR := Lib.hid hr
  have HL := Lib.hid hl
  have hbw := hr.lt
  change Calls _ _ _ _ fun e w' => e = .returned (.tuple #[ag (pof (upto (rci msg l) 35)), .bool true]) ∧ _
  change Ok4 (pof (upto (rci msg l) 35)) at o
  obtain ⟨p0, p1, p2, p3, ep, _⟩ := ok4 o
  rw [ep] at c2 ⊢
  obtain ⟨y0, y1, y2, y3, ey, _⟩ := ok4 hm
  rw [show ag msg = .agg #[.int .u32 y0, .int .u32 y1, .int .u32 y2, .int .u32 y3] by rw [ey, ag4]] at c1 ⊢
  rw [ag4] at c2 ⊢
  have C1 := Lib.hid c1
  have C2 := Lib.hid c2
  have HT := Lib.hid ht
  have z48 := zero48
  have HK0 : Hid (Kp3 w (((w.alloc (.cells #[.int .u32 y0, .int .u32 y1, .int .u32 y2, .int .u32 y3] 24)).alloc (.cells #[.int .u32 0, .int .u32 0, .int .u32 0, .int .u32 0] 24)).alloc (.cells (endc []) 48)) [y0, y1, y2, y3] []) :=
    Lib.hid ((((Kx.nil none w).more (.cells #[.int .u32 y0, .int .u32 y1, .int .u32 y2, .int .u32 y3] 24 (0, 0))).add (w.heap.size + 1) (by simp) (.cells #[.int .u32 0, .int .u32 0, .int .u32 0, .int .u32 0] 24 (0, 0))).add (w.heap.size + 1 + 1) (by simp) (.cells (endc []) 48 (0, 0)))
  clear c1 c2 he huo o ep ey hm ht hr hl
  go_enter Tryd.func19, Tryd.ntmps19
  go_wp2_with fail
  refine (C1.out _).mono ?_
  rintro e w1 ⟨g1, c1, rfl, _, _, hir, hg1, hb⟩
  have HI := Lib.hid hir
  have HK : Hid (Kp3 w w1 [y0, y1, y2, y3] []) := Lib.hid (HK0.out.after hb)
  have hg2 : w.heap.size + 1 + 1 < g1 := by
    have := HK0.out.lt 2 rfl
    omega
  clear hb hir hg1
  go_wp2_with fail
  go_loopw [16] (fun v wr => ∃ j : Nat, j ≤ 35 ∧ v = .int .i64 (j : Int) ∧ Hid (Kp3 w wr [y0, y1, y2, y3] (upto (rci msg l) j)) ∧ Hid (IRow wr g1 (nms msg))) (fun v _ => 35 - (intOf v).toNat)
  case atStart => exact ⟨0, Nat.zero_le _, rfl, HK, HI⟩
  case round =>
    obtain ⟨j, hj, rfl, HK, HI⟩ := hrel
    by_cases hlt : j < 35
    · have i0 : (0 : Int) ≤ (j : Int) := by omega
      have i1 : (j : Int) < 35 := by omega
      obtain ⟨z0, z1, z2, z3, ez, _⟩ := HE.out j hlt
      have hg := List.getElem?_eq_getElem (l := l) (i := j) (by rw [HL.out]; exact hlt)
      have ob := HR.out.ok _ (List.getElem_mem (l := l) (n := j) (by rw [HL.out]; exact hlt))
      obtain ⟨b0, b1, b2, b3, eb, _⟩ := ok4 ob
      rw [eb] at hg ob
      obtain ⟨q0, q1, q2, q3⟩ := (HR.out.oldn HK.out).four hg
      have hd := HN.out j
      have hc := HI.out.at_ j (by rw [HNL.out]; exact hlt)
      have ew : wk (15 - (nms msg).getD j 0) [b0, b1, b2, b3] = [z0, z1, z2, z3] := by
        have hgd : l.getD j [] = [b0, b1, b2, b3] := by rw [List.getD_eq_getElem?_getD, hg]; rfl
        rw [← ez, rci, hgd]
      obtain ⟨d, ed⟩ : ∃ d, (nms msg).getD j 0 = d := ⟨_, rfl⟩
      rw [ed] at hd hc ew
      have CW := Lib.hid (fun W ht => step_at (z := 15 - (d : Int)) (n := 15 - d) W ob (by omega) (by omega) ew ht)
      have HZ : Hid (upto (rci msg l) (j + 1) = upto (rci msg l) j ++ [[z0, z1, z2, z3]]) := Lib.hid (by rw [upto_succ, ez])
      clear ob eb ew ez hg ed
      go_wp2_with fail
      refine (walk_made _ _ _ _ _).mono ?_
      rintro e w2 ⟨rfl, rfl⟩
      go_wp2_with fail
      refine (CW.out _ (HT.out.oldn HK.out)).mono ?_
      rintro e w3 ⟨rfl, hb⟩
      replace HK : Hid (Kp3 w w3 [y0, y1, y2, y3] (upto (rci msg l) j)) := Lib.hid (HK.out.after hb)
      replace HI := Lib.hid (HI.out.kept hb)
      clear hb q0 q1 q2 q3 hc
      obtain ⟨⟨a0, a1, a2, a3⟩, ⟨d0, d1, d2, d3⟩⟩ := end_cells (HK.out.at 2 rfl) (upto_length _ _) hlt (HUO.out j hj)
      have hk2 := HK.out.put (upto_length _ _) hlt (HUO.out j hj) z0 z1 z2 z3
      rw [← HZ.out] at hk2
      have HK2 := Lib.hid hk2
      have HI2 := Lib.hid (HI.out.set4 (b := w.heap.size + 1 + 1) (by omega) (j * 4) (j * 4 + 1) (j * 4 + 2) (j * 4 + 3) (.int .u32 z0) (.int .u32 z1) (.int .u32 z2) (.int .u32 z3))
      clear hk2
      go_wp2_with fail
      go_roundw
      case rel => exact ⟨j + 1, by omega, by go_num, HK2, HI2⟩
      case measure => simp [intOf]; omega
    · obtain rfl : j = 35 := by omega
      have hsz : (Tryd.prog.info? 48).map (·.size) = some (endc (upto (rci msg l) 35)).size := by rw [infoA, endc_size (HUO.out 35 (Nat.le_refl _)) (by rw [upto_length]; omega)]
      have HS := Lib.hid hsz
      have HF := Lib.hid (endc_full (upto_length (rci msg l) 35))
      clear hsz
      go_wp2_with fail
      refine wp_load_row 48 _ rfl (w.heap.size + 1 + 1) rfl 48 (endc (upto (rci msg l) 35)) (0, 0) _ (HK.out.at 2 rfl) Tryd.underlying48 rfl HS.out ?_
      rw [HF.out]
      go_wp2_with fail
      refine (C2.out _ (HT.out.oldn HK.out)).mono ?_
      rintro e w4 ⟨rfl, hb⟩
      replace HK : Hid (Kp3 w w4 [y0, y1, y2, y3] (upto (rci msg l) 35)) := Lib.hid (HK.out.after hb)
      clear hb
      obtain ⟨b0, b1, b2, b3, d0, d1, d2, d3⟩ := cells4 (HK.out.at 1 rfl)
      have HRR := Lib.hid (row4 (HK.out.at 1 rfl) (.int .u32 p0) (.int .u32 p1) (.int .u32 p2) (.int .u32 p3))
      have HEE := Lib.hid (HK.out.put4 1 rfl (.inr (by omega)) (.int .u32 p0) (.int .u32 p1) (.int .u32 p2) (.int .u32 p3)).be.plain
      go_wp2_with fail
      exact bodyPost_ret (v := .tuple #[.agg #[.int .u32 p0, .int .u32 p1, .int .u32 p2, .int .u32 p3], .bool true]) (by
        obtain ⟨k0, k1, k2, k3, _⟩ := cells4 HRR.out
        simp [results, go_sem, k0, k1, k2, k3]) rfl ⟨rfl, HEE.out⟩
end Go.Proofs.YtnobnnbckehikaaDoor
