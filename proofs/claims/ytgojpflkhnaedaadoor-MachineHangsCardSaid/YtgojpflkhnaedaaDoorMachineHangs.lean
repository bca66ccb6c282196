/- The law MachineHangs, its tables laid: for every image, input, state, and other words. No condition. -/
import Derived.Test.YtgojpflkhnaedaaDoorMchQ
import Derived.Test.YtgojpflkhnaedaaDoorMchP
import Derived.Test.YtgojpflkhnaedaaDoorMchW
import Derived.Test.YtgojpflkhnaedaaDoorMchT
namespace Go.Proofs.YtgojpflkhnaedaaDoor.machineHangs
open Go.ChangeShapes Go.WideShapes Go.ChangeAt Go.RowKit
open Go.ChangeMaps (open_string shut_string)
set_option linter.unusedVariables false

set_option maxRecDepth 100000 in
set_option maxHeartbeats 4000000 in
theorem walk {A B : Option Addr} {n c m k : Nat} {code : List Int} {d : Int} {inp : ByteArray} {x : Mst} {C : Option Addr} {o e : Nat} {other : List Int} (w : World) (hM : m ≤ k ∧ k ≤ maxLen ∧ Rd w B m code ∧ W32s code) (hS : StOk w A n c x) (hO : o ≤ e ∧ e ≤ maxLen ∧ Rd w C o other ∧ W32s other) (ht : Tabs w) :
    Calls Tryd.prog 8 #[.agg (asr B m k d inp (stc x.pc x.g (.slice A n c) x.rd x.out x.st x.en)), .slice C o e] w fun e w' => e = .returned (.bool true) ∧ Below w.heap.size w w' := by
  have HK := Lib.hid ((Kx.nil none w).more (.cells (asr B m k d inp (stc x.pc x.g (.slice A n c) x.rd x.out x.st x.en)) 34 (0, 0)))
  obtain ⟨W0, hW0⟩ : ∃ W, w.alloc (.cells (asr B m k d inp (stc x.pc x.g (.slice A n c) x.rd x.out x.st x.en)) 34 (0, 0)) = W := ⟨_, rfl⟩
  rw [hW0] at HK
  have g0 := Lib.hid (HK.out.at 0 rfl)
  have a0 := row_cell (HK.out.at 0 rfl) 0 (asr_0 _ _ _ _ _ _)
  have a1 := row_cell (HK.out.at 0 rfl) 1 (asr_1 _ _ _ _ _ _)
  have a2 := row_cell (HK.out.at 0 rfl) 2 (asr_2 _ _ _ _ _ _)
  have CS := Lib.hid (fun w => small9 (A := A) (B := B) (n := n) (c := c) (m := m) (k := k) (d := d) inp x w)
  have HT := Lib.hid ht
  have HO := Lib.hid hO
  clear hO
  have HM := Lib.hid hM
  obtain ⟨⟨sn1, sn2, hRm, hWm⟩, hWg, hpc, hrd, hst, hen, hos⟩ := hS
  have HN := Lib.hid (And.intro sn1 sn2)
  have HR := Lib.hid hRm
  have HW := Lib.hid hWm
  have HG := Lib.hid hWg
  have HB := Lib.hid (And.intro hst (And.intro hpc (And.intro hrd hen)))
  clear ht hM sn1 sn2 hRm hWm hWg hpc hrd hst hen hos
  by_cases hsm : sml m inp n x
  · by_cases h0 : o ≤ 200
    · by_cases h1 : 0 ≤ x.pc
      · by_cases h2 : x.pc < (m : Int)
        · by_cases h3 : x.pc < (o : Int)
          · have cs := CS.out
            rw [decide_eq_true hsm] at cs
            replace CS := Lib.hid cs
            clear cs
            have e0 : decide ((200 : Int) < (o : Int)) = false := decide_eq_false (by omega)
            have e1 : decide (x.pc < 0) = false := decide_eq_false (by omega)
            have e2 : decide ((m : Int) ≤ x.pc) = false := decide_eq_false (by omega)
            have e3 : decide ((o : Int) ≤ x.pc) = false := decide_eq_false (by omega)
            obtain ⟨m1, m2, m3, m4, m5⟩ := hsm
            have hb62 := HB.out.1
            have STC := Lib.hid (fun (W : World) (hT : Tabs W) (hc : Rd W B m code) (hR : Rd W A n x.mem) => step9 (c := c) (k := k) (d := d) inp x W hT hc (by omega) hR (by omega) HN.out.1 HN.out.2 HG.out (by omega) (by omega))
            have STR := Lib.hid (fun (W : World) (hc : Rd W B m code) (hR : Rd W A n x.mem) => step9_ref (c := c) (k := k) (d := d) inp x W hc (by omega) hR (by omega) HN.out.1 HN.out.2 HG.out (by omega) (by omega))
            obtain ⟨p, hxp⟩ : ∃ p : Nat, x.pc = (p : Int) := ⟨x.pc.toNat, by omega⟩
            have hpm : p < m := by omega
            have hpo : p < o := by omega
            have o0 : 0 < o := by omega
            have hol := HO.out.2.2.1.1
            obtain ⟨bk, off, rfl, hcell⟩ := rd_at9 HM.out.2.2.1 hpm
            obtain ⟨bo, oo, rfl, _⟩ := rd_at9 HO.out.2.2.1 hpo
            have hbl : bk < w.heap.size := block_lt hcell
            obtain ⟨v, hv⟩ : ∃ v, code.getD p 0 = v := ⟨_, rfl⟩
            rw [hv] at hcell
            have hvb : 0 ≤ v ∧ v < 4294967296 := by rw [← hv]; exact HM.out.2.2.1.2.2 p
            have hhang := nxt_hang (code := code) (code2 := other.set p v) (inp := inp) (x := x) hxp (by rw [HM.out.2.2.1.1]; exact hpm) (by rw [List.length_set, hol]; exact hpo) (by rw [hv, List.getD_eq_getElem?_getD, List.getElem?_set_self (by rw [hol]; exact hpo)]; rfl)
            rw [hv] at hhang
            have cd := fun w => decode_ref v w hvb.1 hvb.2
            obtain ⟨z0, hz, hz0, hz1, hz2⟩ := info_parts infoU32
            have p0 : (0 : Int) ≤ (p : Int) := by omega
            have p1 : (p : Int) < (m : Int) := by omega
            have p2 : (p : Int) < (o : Int) := by omega
            have STO := Lib.hid (fun (W : World) (q cap : Nat) (hT : Tabs W) (hc : Rd W (some ⟨q, 0, none⟩) o (other.set p v)) (hR : Rd W A n x.mem) => step9 (c := c) (k := cap) (d := d) inp x W hT hc (by omega) hR (by omega) HN.out.1 HN.out.2 HG.out (by omega) (by omega))
            rw [hxp] at e1 e2 e3
            have HXP := Lib.hid hxp
            have ho200 : o ≤ 200 := h0
            clear h0 h1 h2 h3 hxp
            cases hrg : rgt (v / 16777216) (v / 1048576 % 16) (v / 65536 % 16) (v % 65536) with
            | false =>
              rw [show dcd v = #[.int .i64 0, .int .i64 0, .int .i64 0, .int .i64 0] from by unfold dcd; rw [hrg]; rfl, show dce v = 7 from by unfold dce; rw [hrg]; rfl] at cd
              have hh := hhang (fun h => by rw [hrg] at h; exact absurd h.1 (by simp))
              have CD := Lib.hid cd
              clear cd hhang hrg
              rw [hh] at STO
              obtain ⟨y, hy⟩ : ∃ y, nxt code inp x = y := ⟨_, rfl⟩
              rw [hy] at STO STC
              clear hy hh STR
              have CQ : Hid (∀ (W : World) (A1 A2 : Option Addr) (c1 c2 : Nat) (h1 : Rd W A1 n y.mem) (h2 : Rd W A2 n y.mem), Calls Tryd.prog 17 #[.agg (stc y.pc y.g (.slice A1 n c1) y.rd y.out y.st y.en), .agg (stc y.pc y.g (.slice A2 n c2) y.rd y.out y.st y.en)] W fun e w' => e = .returned (.bool true) ∧ Below W.heap.size W w') := Lib.hid (fun W A1 A2 c1 c2 h1 h2 => by
                have h := same9 (c := c1) (e := c2) y y W h1 h2 (by omega) (by omega)
                rwa [decide_eq_true (eqv_self y)] at h)
              go_enter Tryd.func8, Tryd.ntmps8
              go_wp2_with (first
                | (refine wpList_load_midg (by rfl) 30 _ rfl _ 3 rfl _ _ (asr_range g0.out) Tryd.underlying30 rfl (infoS2 rfl) ?_)
                | fail)
              refine (CS.out _).mono ?_
              rintro e w1 ⟨rfl, hb⟩
              replace HK := Lib.hid (HK.out.after hb)
              clear hb
              clear a0 a1 a2
              have a3 := asr_cell (HK.out.at 0 rfl) 0 3 rfl (stc_pc _ _ _ _ _ _ _)
              have a0 := row_cell (HK.out.at 0 rfl) 0 (asr_0 _ _ _ _ _ _)
              rw [HXP.out] at a3
              have hcc := (HK.out.be.plain.cell (p := ⟨bk, off + p, none⟩) hbl).trans hcell
              go_upto_region 3 with fail
              go_wp2_with fail
              refine (CD.out _).mono ?_
              rintro ed w5 ⟨rfl, hb5⟩
              replace HK := Lib.hid (HK.out.after hb5)
              clear hb5 hcc g0
              go_upto_region 4 with fail
              obtain ⟨W5, hW5⟩ : ∃ W, w5.alloc (.cells #[.int .i64 0, .int .i64 0, .int .i64 0, .int .i64 0] 40 (0, 0)) = W := ⟨_, rfl⟩
              have y0 : W5.cell? ⟨w5.heap.size, 0, none⟩ = some (.int .i64 0) := by rw [← hW5]; exact cell9 w5 _ _ _ _ _
              have k5 := HK.out.more (.cells #[.int .i64 0, .int .i64 0, .int .i64 0, .int .i64 0] 40 (0, 0))
              rw [hW5] at k5 ⊢
              replace HK := Lib.hid k5
              clear k5 hW5
              go_upto_region 6 with fail
              clear a0 a3 y0
              have HK1 := Lib.hid (HK.out.first 1)
              clear HK
              go_wp2_with (at_builtin; (refine wpList_append_lies _ rfl _ _ _ rfl W5.heap.size 27 z0 _ 1 4 Tryd.underlying22 hz hz0 hz1 hz2 rfl (by omega) _ 0 [] rfl (World.ownsRow_made W5 #[] 0 (Nat.le_refl _) (by simp) rfl) ⟨bo, oo, none⟩ o e (other.map (Value.int .u32)) rfl (by simp [hol]) (rd_new o0 ((HO.out.2.2.1.below HK1.out.be.plain).below ((Below.refl _ _).alloc (Nat.le_refl _) _))) (u32_cell _) o0 ?c3 ?c4 ?c5 _ rfl ?_))
              case c3 => unfold maxLen; omega
              case c4 => omega
              case c5 => simp
              intro q1 cap1 w6 hown hgrow hat hlt
              have k1 : Kx none w w6 _ := (v0g HK1.out (.cells #[] 27 (0, 0)) hgrow)
              have hg1 := (hown.lt q1 rfl).1
              have hge : w.heap.size ≤ q1 := Nat.le_trans HK1.out.be.size hg1
              obtain ⟨cur, k2, hc1, hc2, hc3, hc4⟩ := kx_row9 k1 hown (fun y hy => by
                have := (HK1.out.all y hy).2
                omega)
              have k3 := k2.putc 1 rfl (.inr hge) p (.int .u32 v) rfl
              have hrd := rd_blk (k3.at 1 rfl) (set_take v hc4) (by rw [List.length_set]; exact hol) (w32_set HO.out.2.2.2 hvb)
              have hcj : cur[p]? = some (.int .u32 (other.getD p 0)) := by
                have h2 : cur.toList[p]? = (other.map (Value.int .u32))[p]? := by rw [← hc4, List.getElem?_take, if_pos hpo]
                rw [← Array.getElem?_toList, h2, List.getElem?_map, List.getD_eq_getElem?_getD, List.getElem?_eq_getElem (show p < other.length by omega)]
                rfl
              have d3 := row_cell (k2.at 1 rfl) p hcj
              have e3 := row_froz (k2.at 1 rfl) p
              have a0 := row_cell (k2.at 0 rfl) 0 (asr_0 _ _ _ _ _ _)
              have a1 := row_cell (k2.at 0 rfl) 1 (asr_1 _ _ _ _ _ _)
              have a3 := asr_cell (k2.at 0 rfl) 0 3 rfl (stc_pc _ _ _ _ _ _ _)
              rw [HXP.out] at a3
              have hcc := (k2.be.plain.cell (p := ⟨bk, off + p, none⟩) hbl).trans hcell
              have a1' := row_cell (k3.at 0 rfl) 1 (asr_1 _ _ _ _ _ _)
              have HK3 := Lib.hid k3
              have HRD := Lib.hid hrd
              clear k1 k2 k3 hown hgrow hat hlt hc4 hcj hrd HK1
              go_upto_region 7 with fail
              refine wp_region_still_tail 12 (by kernel_rfl) (by kernel_rfl) ?_
              simp only [List.take_succ_cons, List.take_zero, List.drop_succ_cons, List.drop_zero]
              repeat still_step
              refine wpStill_nil ?_
              go_upto_region 9 with fail
              have k4 := HK3.out.add w6.heap.size (by simp) (.cells #[.slice (some ⟨q1, 0, none⟩) o cap1, .int .i64 d] 24 (0, 0))
              have hrd := HRD.out.below ((Below.refl _ _).alloc (Nat.le_refl _) (.cells #[.slice (some ⟨q1, 0, none⟩) o cap1, .int .i64 d] 24 (0, 0)))
              obtain ⟨W9, hW9⟩ : ∃ W, (w6.setCell ⟨q1, p, none⟩ (.int .u32 v)).alloc (.cells #[.slice (some ⟨q1, 0, none⟩) o cap1, .int .i64 d] 24 (0, 0)) = W := ⟨_, rfl⟩
              rw [hW9] at k4 hrd ⊢
              obtain ⟨q2, hq2⟩ : ∃ q, w6.heap.size = q := ⟨_, rfl⟩
              rw [hq2] at k4 ⊢
              have k5 : Kx none w W9 [(w.heap.size, .cells (asr (some ⟨bk, off, none⟩) m k d inp (stc x.pc x.g (.slice A n c) x.rd x.out x.st x.en)) 34 (0, 0)), (q1, .cells (cur.setIfInBounds p (.int .u32 v)) 27 (0, 0)), (q2, .cells #[.slice (some ⟨q1, 0, none⟩) o cap1, .int .i64 d] 24 (0, 0))] := k4
              have HK := Lib.hid k5
              replace HRD := Lib.hid ((hrd.below (Below.refl _ _).drew).below (Below.refl _ _).drew)
              replace HK := Lib.hid HK.out.drew
              clear k4 k5 hrd hW9 hq2 HK3 a0 a1 a3 a1' d3 e3 hcc
              replace HK := Lib.hid HK.out.drew
              refine wp_region_held_drew (S := fun W => W.rangeAt w.heap.size 3 (stc x.pc x.g (.slice A n c) x.rd x.out x.st x.en).toList ∧ W.cell? ⟨w.heap.size, 0, none⟩ = some (.slice (some ⟨bk, off, none⟩) m k) ∧ W.cell? ⟨w.heap.size, 1, none⟩ = some (.int .i64 d) ∧ W.cell? ⟨w.heap.size, 2, none⟩ = some (.string inp) ∧ W.cell? ⟨q2, 0, none⟩ = some (.slice (some ⟨q1, 0, none⟩) o cap1) ∧ W.cell? ⟨q2, 1, none⟩ = some (.int .i64 d)) (by kernel_rfl) ?hsx1 (fun hH => ?restx1)
              case hsx1 => (try dsimp only); with_reducible exact all27 HK.out
              refine wpAnyH_ready (rs := [0]) (by kernel_rfl) (by simp) ?_
              refine AllReadyH.cons (op_at rfl) (fun K hK => ?_) AllReadyH.nil
              go_simp
              go_at_call 10
              (with_reducible refine (awake9 _ (HT.out.below HK.out.be.plain)).mono ?_)
              rintro e W1 ⟨rfl, hbb⟩
              replace HRD := Lib.hid (HRD.out.below hbb)
              replace HK := Lib.hid (HK.out.after hbb)
              clear hbb
              go_simp
              refine hK.out _ _ ?hsx2 (fun hN => ?restx2)
              case hsx2 => (try dsimp only); with_reducible exact all27 HK.out
              clear hK K hH
              have hH := hN
              clear hN
              (try simp only [Act.put, List.setIfInBounds_toArray, List.set_cons_zero, List.set_cons_succ])
              refine wpAnyH_take (i := 1) (v := ?vx3) (by exact op_at rfl) (by kernel_rfl) (by kernel_rfl) (by kernel_rfl) (by exact fun _ _ _ h => h) (Or.inl ⟨by rfl, ?hyx3⟩) hH ?restx3
              case hyx3 => (intro w' hSw; (try dsimp only at hSw); go_simp <;> with_reducible rfl)
              (try simp only [Act.put, List.setIfInBounds_toArray, List.set_cons_zero, List.set_cons_succ])
              refine wpAnyH_take (i := 2) (v := ?vx4) (by exact op_at rfl) (by kernel_rfl) (by kernel_rfl) (by kernel_rfl) (by exact fun _ _ _ h => h) (Or.inl ⟨by rfl, ?hyx4⟩) hH ?restx4
              case hyx4 => (intro w' hSw; (try dsimp only at hSw); go_simp <;> with_reducible rfl)
              (try simp only [Act.put, List.setIfInBounds_toArray, List.set_cons_zero, List.set_cons_succ])
              refine wpAnyH_take (i := 3) (v := ?vx5) (by exact op_at rfl) (by kernel_rfl) (by kernel_rfl) (by kernel_rfl) (by exact fun _ _ _ h => h) (Or.inl ⟨by rfl, ?hyx5⟩) hH ?restx5
              case hyx5 => (intro w' hSw; (try dsimp only at hSw); go_simp <;> with_reducible rfl)
              (try simp only [Act.put, List.setIfInBounds_toArray, List.set_cons_zero, List.set_cons_succ])
              refine wpAnyH_take (i := 4) (v := ?vx6) (by exact op_at rfl) (by kernel_rfl) (by kernel_rfl) (by kernel_rfl) (by exact fun _ _ _ h => h) (Or.inl ⟨by rfl, ?hyx6⟩) hH ?restx6
              case hyx6 => (intro w' hSw; (try dsimp only at hSw); go_simp <;> with_reducible rfl)
              (try simp only [Act.put, List.setIfInBounds_toArray, List.set_cons_zero, List.set_cons_succ])
              refine wpAnyH_take (i := 5) (v := ?vx7) (by exact op_at rfl) (by kernel_rfl) (by kernel_rfl) (by kernel_rfl) (by exact fun _ _ _ h => h) (Or.inl ⟨by rfl, ?hyx7⟩) hH ?restx7
              case hyx7 => (intro w' hSw; (try dsimp only at hSw); go_simp <;> with_reducible rfl)
              (try simp only [Act.put, List.setIfInBounds_toArray, List.set_cons_zero, List.set_cons_succ])
              refine wpAnyH_take (i := 6) (v := .agg (stc x.pc x.g (.slice A n c) x.rd x.out x.st x.en)) (by exact op_at rfl) (by kernel_rfl) (by kernel_rfl) (by kernel_rfl) (by exact fun _ _ _ h => h) (Or.inl ⟨by rfl, ?hyx8⟩) hH ?restx8
              case hyx8 => (intro w' hSw; (try dsimp only at hSw); exact row_run_mid 30 _ (by rfl) w.heap.size 3 (by rfl) _ _ hSw.1 Tryd.underlying30 (by rfl) (infoS2 rfl))
              (try simp only [Act.put, List.setIfInBounds_toArray, List.set_cons_zero, List.set_cons_succ])
              refine wpAnyH_take (i := 8) (v := ?vx9) (by exact op_at rfl) (by kernel_rfl) (by kernel_rfl) (by kernel_rfl) (by exact fun _ _ _ h => h) (Or.inl ⟨by rfl, ?hyx9⟩) hH ?restx9
              case hyx9 => (intro w' hSw; (try dsimp only at hSw); go_simp <;> with_reducible rfl)
              (try simp only [Act.put, List.setIfInBounds_toArray, List.set_cons_zero, List.set_cons_succ])
              refine wpAnyH_take (i := 9) (v := ?vx10) (by exact op_at rfl) (by kernel_rfl) (by kernel_rfl) (by kernel_rfl) (by exact fun _ _ _ h => h) (Or.inl ⟨by rfl, ?hyx10⟩) hH ?restx10
              case hyx10 => (intro w' hSw; (try dsimp only at hSw); go_simp <;> with_reducible rfl)
              (try simp only [Act.put, List.setIfInBounds_toArray, List.set_cons_zero, List.set_cons_succ])
              refine wpAnyH_take (i := 10) (v := ?vx11) (by exact op_at rfl) (by kernel_rfl) (by kernel_rfl) (by kernel_rfl) (by exact fun _ _ _ h => h) (Or.inl ⟨by rfl, ?hyx11⟩) hH ?restx11
              case hyx11 => (intro w' hSw; (try dsimp only at hSw); go_simp <;> with_reducible rfl)
              (try simp only [Act.put, List.setIfInBounds_toArray, List.set_cons_zero, List.set_cons_succ])
              refine wpAnyH_take (i := 11) (v := ?vx12) (by exact op_at rfl) (by kernel_rfl) (by kernel_rfl) (by kernel_rfl) (by exact fun _ _ _ h => h) (Or.inl ⟨by rfl, ?hyx12⟩) hH ?restx12
              case hyx12 => (intro w' hSw; (try dsimp only at hSw); go_simp <;> with_reducible rfl)
              (try simp only [Act.put, List.setIfInBounds_toArray, List.set_cons_zero, List.set_cons_succ])
              refine wpAnyH_take (i := 12) (v := ?vx13) (by exact op_at rfl) (by kernel_rfl) (by kernel_rfl) (by kernel_rfl) (by exact fun _ _ _ h => h) (Or.inl ⟨by rfl, ?hyx13⟩) hH ?restx13
              case hyx13 => (intro w' hSw; (try dsimp only at hSw); go_simp <;> with_reducible rfl)
              (try simp only [Act.put, List.setIfInBounds_toArray, List.set_cons_zero, List.set_cons_succ])
              refine wpAnyH_take (i := 13) (v := .agg (stc x.pc x.g (.slice A n c) x.rd x.out x.st x.en)) (by exact op_at rfl) (by kernel_rfl) (by kernel_rfl) (by kernel_rfl) (by exact fun _ _ _ h => h) (Or.inl ⟨by rfl, ?hyx14⟩) hH ?restx14
              case hyx14 => (intro w' hSw; (try dsimp only at hSw); exact row_run_mid 30 _ (by rfl) w.heap.size 3 (by rfl) _ _ hSw.1 Tryd.underlying30 (by rfl) (infoS2 rfl))
              (try simp only [Act.put, List.setIfInBounds_toArray, List.set_cons_zero, List.set_cons_succ])
              refine wpAnyH_ready (rs := [7]) (by kernel_rfl) (by simp) ?_
              refine AllReadyH.cons (op_at rfl) (fun K hK => ?_) AllReadyH.nil
              go_simp
              go_at_call 15
              (with_reducible refine (STO.out _ _ _ (HT.out.below HK.out.be.plain) HRD.out (HR.out.below HK.out.be.plain)).mono ?_)
              rintro e W1 ⟨v1, rfl, ⟨A1, c1, rfl, hr1, h1a, h1b, _⟩, hbb⟩
              replace HK := Lib.hid (HK.out.after hbb)
              clear hbb
              go_simp
              refine hK.out _ _ ?hsx15 (fun hN => ?restx15)
              case hsx15 => (try dsimp only); with_reducible exact all27 HK.out
              clear hK K hH
              have hH := hN
              clear hN
              (try simp only [Act.put, List.setIfInBounds_toArray, List.set_cons_zero, List.set_cons_succ])
              refine wpAnyH_ready (rs := [14]) (by kernel_rfl) (by simp) ?_
              refine AllReadyH.cons (op_at rfl) (fun K hK => ?_) AllReadyH.nil
              go_simp
              go_at_call 15
              (with_reducible refine (STC.out _ (HT.out.below HK.out.be.plain) (HM.out.2.2.1.below HK.out.be.plain) (HR.out.below HK.out.be.plain)).mono ?_)
              rintro e W1 ⟨v2, rfl, ⟨A2, c2, rfl, hr2, h2a, h2b, _⟩, hbb⟩
              replace hr1 := hr1.below hbb
              replace HK := Lib.hid (HK.out.after hbb)
              clear hbb
              go_simp
              refine hK.out _ _ ?hsx16 (fun hN => ?restx16)
              case hsx16 => (try dsimp only); with_reducible exact all27 HK.out
              clear hK K hH
              have hH := hN
              clear hN
              (try simp only [Act.put, List.setIfInBounds_toArray, List.set_cons_zero, List.set_cons_succ])
              refine wpAnyH_ready (rs := [15]) (by kernel_rfl) (by simp) ?_
              refine AllReadyH.cons (op_at rfl) (fun K hK => ?_) AllReadyH.nil
              go_simp
              go_at_call 17
              (with_reducible refine (CQ.out _ _ _ _ _ hr1 hr2).mono ?_)
              rintro e W1 ⟨rfl, hbb⟩
              replace HK := Lib.hid (HK.out.after hbb)
              clear hbb
              go_simp
              refine hK.out _ _ ?hsx17 (fun hN => ?restx17)
              case hsx17 => (try dsimp only); with_reducible exact all27 HK.out
              clear hK K hH
              have hH := hN
              clear hN
              (try simp only [Act.put, List.setIfInBounds_toArray, List.set_cons_zero, List.set_cons_succ])
              refine wpAnyH_take (i := 16) (v := ?vx18) (by exact op_at rfl) (by kernel_rfl) (by kernel_rfl) (by kernel_rfl) (by exact fun _ _ _ h => h) (Or.inl ⟨by rfl, ?hyx18⟩) hH ?restx18
              case hyx18 => (intro w' hSw; (try dsimp only at hSw); go_simp <;> with_reducible rfl)
              (try simp only [Act.put, List.setIfInBounds_toArray, List.set_cons_zero, List.set_cons_succ])
              refine wpAnyH_take (i := 17) (v := ?vx19) (by exact op_at rfl) (by kernel_rfl) (by kernel_rfl) (by kernel_rfl) (by exact fun _ _ _ h => h) (Or.inl ⟨by rfl, ?hyx19⟩) hH ?restx19
              case hyx19 => (intro w' hSw; (try dsimp only at hSw); go_simp <;> with_reducible rfl)
              (try simp only [Act.put, List.setIfInBounds_toArray, List.set_cons_zero, List.set_cons_succ])
              refine wpAnyH_done (by kernel_rfl) ?_ _
              go_wp2_with fail
              go_ret
              exact ⟨rfl, HK.out.be.plain⟩
            | true =>
              obtain ⟨D0, hD0⟩ : ∃ D, v / 16777216 = D := ⟨_, rfl⟩
              obtain ⟨D1, hD1⟩ : ∃ D, v / 1048576 % 16 = D := ⟨_, rfl⟩
              obtain ⟨D2, hD2⟩ : ∃ D, v / 65536 % 16 = D := ⟨_, rfl⟩
              obtain ⟨D3, hD3⟩ : ∃ D, v % 65536 = D := ⟨_, rfl⟩
              rw [show dcd v = #[.int .i64 D0, .int .i64 D1, .int .i64 D2, .int .i64 D3] from by unfold dcd; rw [hrg, hD0, hD1, hD2, hD3]; rfl, show dce v = 0 from by unfold dce; rw [hrg]; rfl] at cd
              have CD := Lib.hid cd
              by_cases h27 : D0 = 27
              · have q1 := beq_iff_eq.2 h27
                clear cd hhang hrg hD0 hD1 hD2 hD3 h27
                go_enter Tryd.func8, Tryd.ntmps8
                go_wp2_with (first
                  | (refine wpList_load_midg (by rfl) 30 _ rfl _ 3 rfl _ _ (asr_range g0.out) Tryd.underlying30 rfl (infoS2 rfl) ?_)
                  | fail)
                refine (CS.out _).mono ?_
                rintro e w1 ⟨rfl, hb⟩
                replace HK := Lib.hid (HK.out.after hb)
                clear hb
                clear a0 a1 a2
                have a3 := asr_cell (HK.out.at 0 rfl) 0 3 rfl (stc_pc _ _ _ _ _ _ _)
                have a0 := row_cell (HK.out.at 0 rfl) 0 (asr_0 _ _ _ _ _ _)
                rw [HXP.out] at a3
                have hcc := (HK.out.be.plain.cell (p := ⟨bk, off + p, none⟩) hbl).trans hcell
                go_upto_region 3 with fail
                go_wp2_with fail
                refine (CD.out _).mono ?_
                rintro ed w5 ⟨rfl, hb5⟩
                replace HK := Lib.hid (HK.out.after hb5)
                clear hb5 hcc g0
                go_upto_region 4 with fail
                obtain ⟨W5, hW5⟩ : ∃ W, w5.alloc (.cells #[.int .i64 D0, .int .i64 D1, .int .i64 D2, .int .i64 D3] 40 (0, 0)) = W := ⟨_, rfl⟩
                have y0 : W5.cell? ⟨w5.heap.size, 0, none⟩ = some (.int .i64 D0) := by rw [← hW5]; exact cell9 w5 _ _ _ _ _
                have k5 := HK.out.more (.cells #[.int .i64 D0, .int .i64 D1, .int .i64 D2, .int .i64 D3] 40 (0, 0))
                rw [hW5] at k5 ⊢
                replace HK := Lib.hid k5
                clear k5 hW5
                clear a0 a3
                go_wp2_with fail
                refine (awake9 _ (HT.out.below HK.out.be.plain)).mono ?_
                rintro e w2 ⟨rfl, hb⟩
                replace HK := Lib.hid (HK.out.after hb)
                clear hb
                go_wp2_with fail
                go_ret
                exact ⟨rfl, HK.out.be.plain⟩
              · have q1 := beq_eq_false_iff_ne.2 h27
                have hh := hhang (fun h => h27 (hD0.symm.trans h.2))
                clear cd hhang hrg hD0 hD1 hD2 hD3 h27
                rw [hh] at STO
                obtain ⟨y, hy⟩ : ∃ y, nxt code inp x = y := ⟨_, rfl⟩
                rw [hy] at STO STC
                clear hy hh STR
                have CQ : Hid (∀ (W : World) (A1 A2 : Option Addr) (c1 c2 : Nat) (h1 : Rd W A1 n y.mem) (h2 : Rd W A2 n y.mem), Calls Tryd.prog 17 #[.agg (stc y.pc y.g (.slice A1 n c1) y.rd y.out y.st y.en), .agg (stc y.pc y.g (.slice A2 n c2) y.rd y.out y.st y.en)] W fun e w' => e = .returned (.bool true) ∧ Below W.heap.size W w') := Lib.hid (fun W A1 A2 c1 c2 h1 h2 => by
                  have h := same9 (c := c1) (e := c2) y y W h1 h2 (by omega) (by omega)
                  rwa [decide_eq_true (eqv_self y)] at h)
                go_enter Tryd.func8, Tryd.ntmps8
                go_wp2_with (first
                  | (refine wpList_load_midg (by rfl) 30 _ rfl _ 3 rfl _ _ (asr_range g0.out) Tryd.underlying30 rfl (infoS2 rfl) ?_)
                  | fail)
                refine (CS.out _).mono ?_
                rintro e w1 ⟨rfl, hb⟩
                replace HK := Lib.hid (HK.out.after hb)
                clear hb
                clear a0 a1 a2
                have a3 := asr_cell (HK.out.at 0 rfl) 0 3 rfl (stc_pc _ _ _ _ _ _ _)
                have a0 := row_cell (HK.out.at 0 rfl) 0 (asr_0 _ _ _ _ _ _)
                rw [HXP.out] at a3
                have hcc := (HK.out.be.plain.cell (p := ⟨bk, off + p, none⟩) hbl).trans hcell
                go_upto_region 3 with fail
                go_wp2_with fail
                refine (CD.out _).mono ?_
                rintro ed w5 ⟨rfl, hb5⟩
                replace HK := Lib.hid (HK.out.after hb5)
                clear hb5 hcc g0
                go_upto_region 4 with fail
                obtain ⟨W5, hW5⟩ : ∃ W, w5.alloc (.cells #[.int .i64 D0, .int .i64 D1, .int .i64 D2, .int .i64 D3] 40 (0, 0)) = W := ⟨_, rfl⟩
                have y0 : W5.cell? ⟨w5.heap.size, 0, none⟩ = some (.int .i64 D0) := by rw [← hW5]; exact cell9 w5 _ _ _ _ _
                have k5 := HK.out.more (.cells #[.int .i64 D0, .int .i64 D1, .int .i64 D2, .int .i64 D3] 40 (0, 0))
                rw [hW5] at k5 ⊢
                replace HK := Lib.hid k5
                clear k5 hW5
                go_upto_region 6 with fail
                clear a0 a3 y0
                have HK1 := Lib.hid (HK.out.first 1)
                clear HK
                go_wp2_with (at_builtin; (refine wpList_append_lies _ rfl _ _ _ rfl W5.heap.size 27 z0 _ 1 4 Tryd.underlying22 hz hz0 hz1 hz2 rfl (by omega) _ 0 [] rfl (World.ownsRow_made W5 #[] 0 (Nat.le_refl _) (by simp) rfl) ⟨bo, oo, none⟩ o e (other.map (Value.int .u32)) rfl (by simp [hol]) (rd_new o0 ((HO.out.2.2.1.below HK1.out.be.plain).below ((Below.refl _ _).alloc (Nat.le_refl _) _))) (u32_cell _) o0 ?c3 ?c4 ?c5 _ rfl ?_))
                case c3 => unfold maxLen; omega
                case c4 => omega
                case c5 => simp
                intro q1 cap1 w6 hown hgrow hat hlt
                have k1 : Kx none w w6 _ := (v0g HK1.out (.cells #[] 27 (0, 0)) hgrow)
                have hg1 := (hown.lt q1 rfl).1
                have hge : w.heap.size ≤ q1 := Nat.le_trans HK1.out.be.size hg1
                obtain ⟨cur, k2, hc1, hc2, hc3, hc4⟩ := kx_row9 k1 hown (fun y hy => by
                  have := (HK1.out.all y hy).2
                  omega)
                have k3 := k2.putc 1 rfl (.inr hge) p (.int .u32 v) rfl
                have hrd := rd_blk (k3.at 1 rfl) (set_take v hc4) (by rw [List.length_set]; exact hol) (w32_set HO.out.2.2.2 hvb)
                have hcj : cur[p]? = some (.int .u32 (other.getD p 0)) := by
                  have h2 : cur.toList[p]? = (other.map (Value.int .u32))[p]? := by rw [← hc4, List.getElem?_take, if_pos hpo]
                  rw [← Array.getElem?_toList, h2, List.getElem?_map, List.getD_eq_getElem?_getD, List.getElem?_eq_getElem (show p < other.length by omega)]
                  rfl
                have d3 := row_cell (k2.at 1 rfl) p hcj
                have e3 := row_froz (k2.at 1 rfl) p
                have a0 := row_cell (k2.at 0 rfl) 0 (asr_0 _ _ _ _ _ _)
                have a1 := row_cell (k2.at 0 rfl) 1 (asr_1 _ _ _ _ _ _)
                have a3 := asr_cell (k2.at 0 rfl) 0 3 rfl (stc_pc _ _ _ _ _ _ _)
                rw [HXP.out] at a3
                have hcc := (k2.be.plain.cell (p := ⟨bk, off + p, none⟩) hbl).trans hcell
                have a1' := row_cell (k3.at 0 rfl) 1 (asr_1 _ _ _ _ _ _)
                have HK3 := Lib.hid k3
                have HRD := Lib.hid hrd
                clear k1 k2 k3 hown hgrow hat hlt hc4 hcj hrd HK1
                go_upto_region 7 with fail
                refine wp_region_still_tail 12 (by kernel_rfl) (by kernel_rfl) ?_
                simp only [List.take_succ_cons, List.take_zero, List.drop_succ_cons, List.drop_zero]
                repeat still_step
                refine wpStill_nil ?_
                go_upto_region 9 with fail
                have k4 := HK3.out.add w6.heap.size (by simp) (.cells #[.slice (some ⟨q1, 0, none⟩) o cap1, .int .i64 d] 24 (0, 0))
                have hrd := HRD.out.below ((Below.refl _ _).alloc (Nat.le_refl _) (.cells #[.slice (some ⟨q1, 0, none⟩) o cap1, .int .i64 d] 24 (0, 0)))
                obtain ⟨W9, hW9⟩ : ∃ W, (w6.setCell ⟨q1, p, none⟩ (.int .u32 v)).alloc (.cells #[.slice (some ⟨q1, 0, none⟩) o cap1, .int .i64 d] 24 (0, 0)) = W := ⟨_, rfl⟩
                rw [hW9] at k4 hrd ⊢
                obtain ⟨q2, hq2⟩ : ∃ q, w6.heap.size = q := ⟨_, rfl⟩
                rw [hq2] at k4 ⊢
                have k5 : Kx none w W9 [(w.heap.size, .cells (asr (some ⟨bk, off, none⟩) m k d inp (stc x.pc x.g (.slice A n c) x.rd x.out x.st x.en)) 34 (0, 0)), (q1, .cells (cur.setIfInBounds p (.int .u32 v)) 27 (0, 0)), (q2, .cells #[.slice (some ⟨q1, 0, none⟩) o cap1, .int .i64 d] 24 (0, 0))] := k4
                have HK := Lib.hid k5
                replace HRD := Lib.hid ((hrd.below (Below.refl _ _).drew).below (Below.refl _ _).drew)
                replace HK := Lib.hid HK.out.drew
                clear k4 k5 hrd hW9 hq2 HK3 a0 a1 a3 a1' d3 e3 hcc
                replace HK := Lib.hid HK.out.drew
                refine wp_region_held_drew (S := fun W => W.rangeAt w.heap.size 3 (stc x.pc x.g (.slice A n c) x.rd x.out x.st x.en).toList ∧ W.cell? ⟨w.heap.size, 0, none⟩ = some (.slice (some ⟨bk, off, none⟩) m k) ∧ W.cell? ⟨w.heap.size, 1, none⟩ = some (.int .i64 d) ∧ W.cell? ⟨w.heap.size, 2, none⟩ = some (.string inp) ∧ W.cell? ⟨q2, 0, none⟩ = some (.slice (some ⟨q1, 0, none⟩) o cap1) ∧ W.cell? ⟨q2, 1, none⟩ = some (.int .i64 d)) (by kernel_rfl) ?hsx20 (fun hH => ?restx20)
                case hsx20 => (try dsimp only); with_reducible exact all27 HK.out
                refine wpAnyH_ready (rs := [0]) (by kernel_rfl) (by simp) ?_
                refine AllReadyH.cons (op_at rfl) (fun K hK => ?_) AllReadyH.nil
                go_simp
                go_at_call 10
                (with_reducible refine (awake9 _ (HT.out.below HK.out.be.plain)).mono ?_)
                rintro e W1 ⟨rfl, hbb⟩
                replace HRD := Lib.hid (HRD.out.below hbb)
                replace HK := Lib.hid (HK.out.after hbb)
                clear hbb
                go_simp
                refine hK.out _ _ ?hsx21 (fun hN => ?restx21)
                case hsx21 => (try dsimp only); with_reducible exact all27 HK.out
                clear hK K hH
                have hH := hN
                clear hN
                (try simp only [Act.put, List.setIfInBounds_toArray, List.set_cons_zero, List.set_cons_succ])
                refine wpAnyH_take (i := 1) (v := ?vx22) (by exact op_at rfl) (by kernel_rfl) (by kernel_rfl) (by kernel_rfl) (by exact fun _ _ _ h => h) (Or.inl ⟨by rfl, ?hyx22⟩) hH ?restx22
                case hyx22 => (intro w' hSw; (try dsimp only at hSw); go_simp <;> with_reducible rfl)
                (try simp only [Act.put, List.setIfInBounds_toArray, List.set_cons_zero, List.set_cons_succ])
                refine wpAnyH_take (i := 2) (v := ?vx23) (by exact op_at rfl) (by kernel_rfl) (by kernel_rfl) (by kernel_rfl) (by exact fun _ _ _ h => h) (Or.inl ⟨by rfl, ?hyx23⟩) hH ?restx23
                case hyx23 => (intro w' hSw; (try dsimp only at hSw); go_simp <;> with_reducible rfl)
                (try simp only [Act.put, List.setIfInBounds_toArray, List.set_cons_zero, List.set_cons_succ])
                refine wpAnyH_take (i := 3) (v := ?vx24) (by exact op_at rfl) (by kernel_rfl) (by kernel_rfl) (by kernel_rfl) (by exact fun _ _ _ h => h) (Or.inl ⟨by rfl, ?hyx24⟩) hH ?restx24
                case hyx24 => (intro w' hSw; (try dsimp only at hSw); go_simp <;> with_reducible rfl)
                (try simp only [Act.put, List.setIfInBounds_toArray, List.set_cons_zero, List.set_cons_succ])
                refine wpAnyH_take (i := 4) (v := ?vx25) (by exact op_at rfl) (by kernel_rfl) (by kernel_rfl) (by kernel_rfl) (by exact fun _ _ _ h => h) (Or.inl ⟨by rfl, ?hyx25⟩) hH ?restx25
                case hyx25 => (intro w' hSw; (try dsimp only at hSw); go_simp <;> with_reducible rfl)
                (try simp only [Act.put, List.setIfInBounds_toArray, List.set_cons_zero, List.set_cons_succ])
                refine wpAnyH_take (i := 5) (v := ?vx26) (by exact op_at rfl) (by kernel_rfl) (by kernel_rfl) (by kernel_rfl) (by exact fun _ _ _ h => h) (Or.inl ⟨by rfl, ?hyx26⟩) hH ?restx26
                case hyx26 => (intro w' hSw; (try dsimp only at hSw); go_simp <;> with_reducible rfl)
                (try simp only [Act.put, List.setIfInBounds_toArray, List.set_cons_zero, List.set_cons_succ])
                refine wpAnyH_take (i := 6) (v := .agg (stc x.pc x.g (.slice A n c) x.rd x.out x.st x.en)) (by exact op_at rfl) (by kernel_rfl) (by kernel_rfl) (by kernel_rfl) (by exact fun _ _ _ h => h) (Or.inl ⟨by rfl, ?hyx27⟩) hH ?restx27
                case hyx27 => (intro w' hSw; (try dsimp only at hSw); exact row_run_mid 30 _ (by rfl) w.heap.size 3 (by rfl) _ _ hSw.1 Tryd.underlying30 (by rfl) (infoS2 rfl))
                (try simp only [Act.put, List.setIfInBounds_toArray, List.set_cons_zero, List.set_cons_succ])
                refine wpAnyH_take (i := 8) (v := ?vx28) (by exact op_at rfl) (by kernel_rfl) (by kernel_rfl) (by kernel_rfl) (by exact fun _ _ _ h => h) (Or.inl ⟨by rfl, ?hyx28⟩) hH ?restx28
                case hyx28 => (intro w' hSw; (try dsimp only at hSw); go_simp <;> with_reducible rfl)
                (try simp only [Act.put, List.setIfInBounds_toArray, List.set_cons_zero, List.set_cons_succ])
                refine wpAnyH_take (i := 9) (v := ?vx29) (by exact op_at rfl) (by kernel_rfl) (by kernel_rfl) (by kernel_rfl) (by exact fun _ _ _ h => h) (Or.inl ⟨by rfl, ?hyx29⟩) hH ?restx29
                case hyx29 => (intro w' hSw; (try dsimp only at hSw); go_simp <;> with_reducible rfl)
                (try simp only [Act.put, List.setIfInBounds_toArray, List.set_cons_zero, List.set_cons_succ])
                refine wpAnyH_take (i := 10) (v := ?vx30) (by exact op_at rfl) (by kernel_rfl) (by kernel_rfl) (by kernel_rfl) (by exact fun _ _ _ h => h) (Or.inl ⟨by rfl, ?hyx30⟩) hH ?restx30
                case hyx30 => (intro w' hSw; (try dsimp only at hSw); go_simp <;> with_reducible rfl)
                (try simp only [Act.put, List.setIfInBounds_toArray, List.set_cons_zero, List.set_cons_succ])
                refine wpAnyH_take (i := 11) (v := ?vx31) (by exact op_at rfl) (by kernel_rfl) (by kernel_rfl) (by kernel_rfl) (by exact fun _ _ _ h => h) (Or.inl ⟨by rfl, ?hyx31⟩) hH ?restx31
                case hyx31 => (intro w' hSw; (try dsimp only at hSw); go_simp <;> with_reducible rfl)
                (try simp only [Act.put, List.setIfInBounds_toArray, List.set_cons_zero, List.set_cons_succ])
                refine wpAnyH_take (i := 12) (v := ?vx32) (by exact op_at rfl) (by kernel_rfl) (by kernel_rfl) (by kernel_rfl) (by exact fun _ _ _ h => h) (Or.inl ⟨by rfl, ?hyx32⟩) hH ?restx32
                case hyx32 => (intro w' hSw; (try dsimp only at hSw); go_simp <;> with_reducible rfl)
                (try simp only [Act.put, List.setIfInBounds_toArray, List.set_cons_zero, List.set_cons_succ])
                refine wpAnyH_take (i := 13) (v := .agg (stc x.pc x.g (.slice A n c) x.rd x.out x.st x.en)) (by exact op_at rfl) (by kernel_rfl) (by kernel_rfl) (by kernel_rfl) (by exact fun _ _ _ h => h) (Or.inl ⟨by rfl, ?hyx33⟩) hH ?restx33
                case hyx33 => (intro w' hSw; (try dsimp only at hSw); exact row_run_mid 30 _ (by rfl) w.heap.size 3 (by rfl) _ _ hSw.1 Tryd.underlying30 (by rfl) (infoS2 rfl))
                (try simp only [Act.put, List.setIfInBounds_toArray, List.set_cons_zero, List.set_cons_succ])
                refine wpAnyH_ready (rs := [7]) (by kernel_rfl) (by simp) ?_
                refine AllReadyH.cons (op_at rfl) (fun K hK => ?_) AllReadyH.nil
                go_simp
                go_at_call 15
                (with_reducible refine (STO.out _ _ _ (HT.out.below HK.out.be.plain) HRD.out (HR.out.below HK.out.be.plain)).mono ?_)
                rintro e W1 ⟨v1, rfl, ⟨A1, c1, rfl, hr1, h1a, h1b, _⟩, hbb⟩
                replace HK := Lib.hid (HK.out.after hbb)
                clear hbb
                go_simp
                refine hK.out _ _ ?hsx34 (fun hN => ?restx34)
                case hsx34 => (try dsimp only); with_reducible exact all27 HK.out
                clear hK K hH
                have hH := hN
                clear hN
                (try simp only [Act.put, List.setIfInBounds_toArray, List.set_cons_zero, List.set_cons_succ])
                refine wpAnyH_ready (rs := [14]) (by kernel_rfl) (by simp) ?_
                refine AllReadyH.cons (op_at rfl) (fun K hK => ?_) AllReadyH.nil
                go_simp
                go_at_call 15
                (with_reducible refine (STC.out _ (HT.out.below HK.out.be.plain) (HM.out.2.2.1.below HK.out.be.plain) (HR.out.below HK.out.be.plain)).mono ?_)
                rintro e W1 ⟨v2, rfl, ⟨A2, c2, rfl, hr2, h2a, h2b, _⟩, hbb⟩
                replace hr1 := hr1.below hbb
                replace HK := Lib.hid (HK.out.after hbb)
                clear hbb
                go_simp
                refine hK.out _ _ ?hsx35 (fun hN => ?restx35)
                case hsx35 => (try dsimp only); with_reducible exact all27 HK.out
                clear hK K hH
                have hH := hN
                clear hN
                (try simp only [Act.put, List.setIfInBounds_toArray, List.set_cons_zero, List.set_cons_succ])
                refine wpAnyH_ready (rs := [15]) (by kernel_rfl) (by simp) ?_
                refine AllReadyH.cons (op_at rfl) (fun K hK => ?_) AllReadyH.nil
                go_simp
                go_at_call 17
                (with_reducible refine (CQ.out _ _ _ _ _ hr1 hr2).mono ?_)
                rintro e W1 ⟨rfl, hbb⟩
                replace HK := Lib.hid (HK.out.after hbb)
                clear hbb
                go_simp
                refine hK.out _ _ ?hsx36 (fun hN => ?restx36)
                case hsx36 => (try dsimp only); with_reducible exact all27 HK.out
                clear hK K hH
                have hH := hN
                clear hN
                (try simp only [Act.put, List.setIfInBounds_toArray, List.set_cons_zero, List.set_cons_succ])
                refine wpAnyH_take (i := 16) (v := ?vx37) (by exact op_at rfl) (by kernel_rfl) (by kernel_rfl) (by kernel_rfl) (by exact fun _ _ _ h => h) (Or.inl ⟨by rfl, ?hyx37⟩) hH ?restx37
                case hyx37 => (intro w' hSw; (try dsimp only at hSw); go_simp <;> with_reducible rfl)
                (try simp only [Act.put, List.setIfInBounds_toArray, List.set_cons_zero, List.set_cons_succ])
                refine wpAnyH_take (i := 17) (v := ?vx38) (by exact op_at rfl) (by kernel_rfl) (by kernel_rfl) (by kernel_rfl) (by exact fun _ _ _ h => h) (Or.inl ⟨by rfl, ?hyx38⟩) hH ?restx38
                case hyx38 => (intro w' hSw; (try dsimp only at hSw); go_simp <;> with_reducible rfl)
                (try simp only [Act.put, List.setIfInBounds_toArray, List.set_cons_zero, List.set_cons_succ])
                refine wpAnyH_done (by kernel_rfl) ?_ _
                go_wp2_with fail
                go_ret
                exact ⟨rfl, HK.out.be.plain⟩
          · have cs := CS.out
            rw [decide_eq_true hsm] at cs
            replace CS := Lib.hid cs
            clear cs
            have e0 : decide ((200 : Int) < (o : Int)) = false := decide_eq_false (by omega)
            have e1 : decide (x.pc < 0) = false := decide_eq_false (by omega)
            have e2 : decide ((m : Int) ≤ x.pc) = false := decide_eq_false (by omega)
            have e3 : decide ((o : Int) ≤ x.pc) = true := decide_eq_true (by omega)
            clear hsm h0 h1 h2 h3
            go_enter Tryd.func8, Tryd.ntmps8
            go_wp2_with (first
              | (refine wpList_load_midg (by rfl) 30 _ rfl _ 3 rfl _ _ (asr_range g0.out) Tryd.underlying30 rfl (infoS2 rfl) ?_)
              | fail)
            refine (CS.out _).mono ?_
            rintro e w1 ⟨rfl, hb⟩
            replace HK := Lib.hid (HK.out.after hb)
            clear hb
            clear a0 a1 a2
            have a3 := asr_cell (HK.out.at 0 rfl) 0 3 rfl (stc_pc _ _ _ _ _ _ _)
            have a0 := row_cell (HK.out.at 0 rfl) 0 (asr_0 _ _ _ _ _ _)
            clear g0
            go_wp2_with fail
            refine (awake9 _ (HT.out.below HK.out.be.plain)).mono ?_
            rintro e w2 ⟨rfl, hb⟩
            replace HK := Lib.hid (HK.out.after hb)
            clear hb
            go_wp2_with fail
            go_ret
            exact ⟨rfl, HK.out.be.plain⟩
        · have cs := CS.out
          rw [decide_eq_true hsm] at cs
          replace CS := Lib.hid cs
          clear cs
          have e0 : decide ((200 : Int) < (o : Int)) = false := decide_eq_false (by omega)
          have e1 : decide (x.pc < 0) = false := decide_eq_false (by omega)
          have e2 : decide ((m : Int) ≤ x.pc) = true := decide_eq_true (by omega)
          clear hsm h0 h1 h2
          go_enter Tryd.func8, Tryd.ntmps8
          go_wp2_with (first
            | (refine wpList_load_midg (by rfl) 30 _ rfl _ 3 rfl _ _ (asr_range g0.out) Tryd.underlying30 rfl (infoS2 rfl) ?_)
            | fail)
          refine (CS.out _).mono ?_
          rintro e w1 ⟨rfl, hb⟩
          replace HK := Lib.hid (HK.out.after hb)
          clear hb
          clear a0 a1 a2
          have a3 := asr_cell (HK.out.at 0 rfl) 0 3 rfl (stc_pc _ _ _ _ _ _ _)
          have a0 := row_cell (HK.out.at 0 rfl) 0 (asr_0 _ _ _ _ _ _)
          clear g0
          go_wp2_with fail
          refine (awake9 _ (HT.out.below HK.out.be.plain)).mono ?_
          rintro e w2 ⟨rfl, hb⟩
          replace HK := Lib.hid (HK.out.after hb)
          clear hb
          go_wp2_with fail
          go_ret
          exact ⟨rfl, HK.out.be.plain⟩
      · have cs := CS.out
        rw [decide_eq_true hsm] at cs
        replace CS := Lib.hid cs
        clear cs
        have e0 : decide ((200 : Int) < (o : Int)) = false := decide_eq_false (by omega)
        have e1 : decide (x.pc < 0) = true := decide_eq_true (by omega)
        clear hsm h0 h1
        go_enter Tryd.func8, Tryd.ntmps8
        go_wp2_with (first
          | (refine wpList_load_midg (by rfl) 30 _ rfl _ 3 rfl _ _ (asr_range g0.out) Tryd.underlying30 rfl (infoS2 rfl) ?_)
          | fail)
        refine (CS.out _).mono ?_
        rintro e w1 ⟨rfl, hb⟩
        replace HK := Lib.hid (HK.out.after hb)
        clear hb
        clear a0 a1 a2
        have a3 := asr_cell (HK.out.at 0 rfl) 0 3 rfl (stc_pc _ _ _ _ _ _ _)
        have a0 := row_cell (HK.out.at 0 rfl) 0 (asr_0 _ _ _ _ _ _)
        clear g0
        go_wp2_with fail
        refine (awake9 _ (HT.out.below HK.out.be.plain)).mono ?_
        rintro e w2 ⟨rfl, hb⟩
        replace HK := Lib.hid (HK.out.after hb)
        clear hb
        go_wp2_with fail
        go_ret
        exact ⟨rfl, HK.out.be.plain⟩
    · have cs := CS.out
      rw [decide_eq_true hsm] at cs
      replace CS := Lib.hid cs
      clear cs
      have e0 : decide ((200 : Int) < (o : Int)) = true := decide_eq_true (by omega)
      clear hsm h0
      go_enter Tryd.func8, Tryd.ntmps8
      go_wp2_with (first
        | (refine wpList_load_midg (by rfl) 30 _ rfl _ 3 rfl _ _ (asr_range g0.out) Tryd.underlying30 rfl (infoS2 rfl) ?_)
        | fail)
      refine (CS.out _).mono ?_
      rintro e w1 ⟨rfl, hb⟩
      replace HK := Lib.hid (HK.out.after hb)
      clear hb
      clear a0 a1 a2
      have a3 := asr_cell (HK.out.at 0 rfl) 0 3 rfl (stc_pc _ _ _ _ _ _ _)
      have a0 := row_cell (HK.out.at 0 rfl) 0 (asr_0 _ _ _ _ _ _)
      clear g0
      go_wp2_with fail
      refine (awake9 _ (HT.out.below HK.out.be.plain)).mono ?_
      rintro e w2 ⟨rfl, hb⟩
      replace HK := Lib.hid (HK.out.after hb)
      clear hb
      go_wp2_with fail
      go_ret
      exact ⟨rfl, HK.out.be.plain⟩
  · have cs := CS.out
    rw [decide_eq_false hsm] at cs
    replace CS := Lib.hid cs
    clear cs
    go_enter Tryd.func8, Tryd.ntmps8
    go_wp2_with (first
      | (refine wpList_load_midg (by rfl) 30 _ rfl _ 3 rfl _ _ (asr_range g0.out) Tryd.underlying30 rfl (infoS2 rfl) ?_)
      | fail)
    refine (CS.out _).mono ?_
    rintro e w1 ⟨rfl, hb⟩
    replace HK := Lib.hid (HK.out.after hb)
    clear hb
    clear a0 a1 a2 g0
    go_wp2_with fail
    refine (awake9 _ (HT.out.below HK.out.be.plain)).mono ?_
    rintro e w2 ⟨rfl, hb⟩
    replace HK := Lib.hid (HK.out.after hb)
    clear hb
    go_wp2_with fail
    go_ret
    exact ⟨rfl, HK.out.be.plain⟩

set_option maxRecDepth 100000 in
theorem contract (H : Type) (enc : TypeId × Value → H) (W : World) (base : Nat) (args : Array Value) (ds gs : List (DataW H)) (before : List MemPlace)
    (hval : ∀ (j : Nat) t v, Tryd.f8.params[j]? = some t → args[j]? = some v → Value.okWide Tryd.prog W .any base t v)
    (hW : DataW.Whole enc Tryd.prog Tryd.f8.params.toList Rows.machineHangsSpec.vars false W args.toList ds gs before) (hL : laidMetH Tryd.prog Rows.machineHangsRow.laid W) :
    Calls Tryd.prog 8 args W fun e W' => ∃ v, e = .returned v ∧ Rows.machineHangsSpec.post enc Tryd.prog Tryd.f8 false true false false W args v W' := by
  have hW' := hW
  obtain ⟨p, q, hA0, hV, rfl, hfz, hnd⟩ := hW
  have hA : DataW.TrodAll enc Tryd.prog W 0 (fun _ => true) true Tryd.f8.params.toList args.toList ds p := hA0
  rw [Tryd.params8] at hA hval
  obtain ⟨v0, vs0, d0, ds0, p0, q0, hargs, rfl, rfl, h0, r0⟩ := trodAll_cons hA
  obtain ⟨v1, vs1, d1, ds1, p1, q1, rfl, rfl, rfl, h1, r1⟩ := trodAll_cons r0
  obtain ⟨rfl, rfl, rfl⟩ := trodAll_nil r1
  obtain rfl : args = #[v0, v1] := by cases args; simp_all
  obtain ⟨rfl, rfl⟩ := trodVars_none hV
  have lt0 : ∀ x ∈ p0, x.block < W.heap.size := by obtain ⟨m, hm⟩ := h0; exact DataW.trod_lt m _ _ _ hm
  obtain ⟨B, m, k, code, d, inp, A, n, c, x, rfl, hM, wd, hi, hS⟩ := open_ask9 (hval 0 34 v0 rfl rfl) h0
  have lt1 : ∀ x ∈ p1, x.block < W.heap.size := by obtain ⟨m, hm⟩ := h1; exact DataW.trod_lt m _ _ _ hm
  obtain ⟨A1, n1, c1, l1, rfl, hM1⟩ := open_wl (hval 1 22 v1 rfl rfl) h1
  clear hA0
  refine (walk  W hM hS hM1 (tabs_of hL)).mono fun e W' ⟨he, bel⟩ => ?_
  subst he
  exact ⟨_, rfl, _, _, _, [], _, [], hW', trodAll_mk1 (shut_bool Tryd.underlying4 _), (trodAll_cons_mk (Below.trod laidOut (by kernel_rfl) (of_decide_eq_true (by kernel_rfl)) h0 bel lt0) (trodAll_cons_mk (Below.trod laidOut (by kernel_rfl) (of_decide_eq_true (by kernel_rfl)) h1 bel lt1) trodAll_mk0)), rfl, bel.frame _, fun h => by cases h⟩

theorem laid_met (os : Os) : laidMet Tryd.prog Rows.machineHangsRow.laid ((laidWorld os).forCall (fun _ _ => 0) ⟨#[], #[.agg #[.slice none 0 0, .int .i64 0, .string ByteArray.empty, .int .i64 0, .int .u32 0, .int .u32 0, .int .u32 0, .int .u32 0, .int .u32 0, .int .u32 0, .int .u32 0, .int .u32 0, .int .u32 0, .int .u32 0, .int .u32 0, .int .u32 0, .int .u32 0, .int .u32 0, .int .u32 0, .int .u32 0, .slice none 0 0, .int .i64 0, .string ByteArray.empty, .int .i64 0, .int .i64 0], .slice none 0 0], []⟩).memory :=
  laidMet_of_run' 8 (by kernel_rfl) (by kernel_rfl)
theorem reads (os : Os) {H : Type} (enc : TypeId × Value → H) : ∃ places, DataW.whole enc Tryd.prog ((laidWorld os).forCall (fun _ _ => 0) ⟨#[], #[.agg #[.slice none 0 0, .int .i64 0, .string ByteArray.empty, .int .i64 0, .int .u32 0, .int .u32 0, .int .u32 0, .int .u32 0, .int .u32 0, .int .u32 0, .int .u32 0, .int .u32 0, .int .u32 0, .int .u32 0, .int .u32 0, .int .u32 0, .int .u32 0, .int .u32 0, .int .u32 0, .int .u32 0, .slice none 0 0, .int .i64 0, .string ByteArray.empty, .int .i64 0, .int .i64 0], .slice none 0 0], []⟩).memory Tryd.f8.params.toList Rows.machineHangsSpec.vars false (#[.agg #[.slice none 0 0, .int .i64 0, .string ByteArray.empty, .int .i64 0, .int .u32 0, .int .u32 0, .int .u32 0, .int .u32 0, .int .u32 0, .int .u32 0, .int .u32 0, .int .u32 0, .int .u32 0, .int .u32 0, .int .u32 0, .int .u32 0, .int .u32 0, .int .u32 0, .int .u32 0, .int .u32 0, .slice none 0 0, .int .i64 0, .string ByteArray.empty, .int .i64 0, .int .i64 0], .slice none 0 0] : Array Value).toList 8 = some ([.agg [.agg [.nil, .lit (.int .i64 0)], .lit (.string []), .agg [.lit (.int .i64 0), .agg [.lit (.int .u32 0), .lit (.int .u32 0), .lit (.int .u32 0), .lit (.int .u32 0), .lit (.int .u32 0), .lit (.int .u32 0), .lit (.int .u32 0), .lit (.int .u32 0), .lit (.int .u32 0), .lit (.int .u32 0), .lit (.int .u32 0), .lit (.int .u32 0), .lit (.int .u32 0), .lit (.int .u32 0), .lit (.int .u32 0), .lit (.int .u32 0)], .nil, .lit (.int .i64 0), .lit (.string []), .lit (.int .i64 0), .lit (.int .i64 0)]], .nil], [], places) :=
  ⟨[], by kernel_rfl⟩

set_option maxRecDepth 100000 in
theorem lifted (os : Os) (started : os.Started) (H : Type) (enc : TypeId × Value → H) (F : Stop.Interp) :
    ReturnsInHanded {} Tryd.checked os 8 .any ((OpenSpec.ofChange Rows.machineHangsSpec).preRow enc Tryd.prog Tryd.f8 Rows.machineHangsRow.domain false Rows.machineHangsRow.laid) (((OpenSpec.ofChange Rows.machineHangsSpec).at F).post enc Tryd.prog Tryd.f8 false true false false) := by
  obtain ⟨places, hx⟩ := reads os enc
  refine returnsInHanded_of_row (C := Tryd.checked) (s := OpenSpec.ofChange Rows.machineHangsSpec) own started (by kernel_rfl) Tryd.func8
    (witness_row_at (enc := enc) (C := Tryd.checked) false (laidWorld os) #[.agg #[.slice none 0 0, .int .i64 0, .string ByteArray.empty, .int .i64 0, .int .u32 0, .int .u32 0, .int .u32 0, .int .u32 0, .int .u32 0, .int .u32 0, .int .u32 0, .int .u32 0, .int .u32 0, .int .u32 0, .int .u32 0, .int .u32 0, .int .u32 0, .int .u32 0, .int .u32 0, .int .u32 0, .slice none 0 0, .int .i64 0, .string ByteArray.empty, .int .i64 0, .int .i64 0], .slice none 0 0] rfl (by kernel_rfl) (by kernel_rfl) (by kernel_rfl)
      (OpenSpec.preRow_of_cond 8 hx (by kernel_rfl) (fun k hk => by cases hk) (by kernel_rfl) (laid_met os))) ?_
  intro W base args ds gs before hval hW _ _ _ hL _ _
  exact contract H enc W base args ds gs before hval hW hL

theorem said : Rows.MachineHangsSaid :=
  OpenClaim.holds_of_cond 8 Tryd.f8 rfl rfl rfl rfl rfl rfl rfl ⟨rfl, rfl, rfl, rfl, rfl⟩ rfl rfl rfl rfl rfl (by kernel_rfl) Tryd.func8 (by kernel_rfl)
    (of_decide_eq_true (by kernel_rfl)) (by unfold Func.isWrapper; first | (rw [if_pos (by decide +kernel)]; kernel_rfl) | (rw [if_neg (by decide +kernel)]; exact ⟨rfl, rfl⟩))
    (fun os started H enc _ F => by rw [OpenClaim.pre_eq_preRow]; exact lifted os started H enc F)

theorem plain (f : FuncId) (fn : Func) (hf : Tryd.pinned.checked.prog.funcNamed "seedcorn/seedcornlaw09.MachineHangs" = some f) (hfn : Tryd.pinned.checked.prog.funcs[f]? = some fn) :
    false = Tryd.pinned.checked.prog.looks [] ∧ ∀ (j : Nat) t, fn.params[j]? = some t → Tryd.pinned.checked.prog.wantsStandIn t = false := by
  obtain rfl : f = 8 := Option.some.inj ((show Tryd.prog.funcNamed "seedcorn/seedcornlaw09.MachineHangs" = some 8 by kernel_rfl).symm.trans hf) |>.symm
  obtain rfl : fn = Tryd.f8 := (Option.some.inj (Tryd.func8.symm.trans hfn)).symm
  refine ⟨by kernel_rfl, fun j t ht => ?_⟩
  rw [Tryd.params8] at ht
  have hm := Array.mem_of_getElem? ht
  have hm' : t = 34 ∨ t = 22 := by simpa using hm
  rcases hm' with rfl | rfl
  · exact (show Tryd.prog.wantsStandIn 34 = false by kernel_rfl)
  · exact (show Tryd.prog.wantsStandIn 22 = false by kernel_rfl)

/-- The card. -/
theorem card : Rows.MachineHangsCardSaid :=
  Claim7.holds_tied_plain_at .later [] _ _ _ _ said (fun _ h => by cases h) (by kernel_rfl) (fun _ h => by cases h) machineHangs_row_tie rfl ⟨rfl, rfl⟩ (by kernel_rfl) rfl plain (by kernel_rfl)
end Go.Proofs.YtgojpflkhnaedaaDoor.machineHangs
