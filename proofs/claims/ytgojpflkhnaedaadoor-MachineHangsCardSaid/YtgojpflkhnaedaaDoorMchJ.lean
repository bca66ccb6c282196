/- The reference of layer 9: Step: call. -/
import Derived.Test.YtgojpflkhnaedaaDoorMchG
import Derived.Deep.RegionHeld3
set_option linter.unusedVariables false
namespace Go.Proofs.YtgojpflkhnaedaaDoor
open Go.RowKit

theorem step_store_row9 {P : Program} {ops : Array Oper} {o : Oper} {a : Act} {w : World} {K : Act → World → Prop} {Q : Exit → Act → World → Prop} {E : Prop} (hgd : o.guard = none) (ty : TypeId) (x y : Operand) (ho : o.op = .store ty x y)
    (g : Nat) (cells : Array Value) (hx : a.eval x = .pointer (some ⟨g, 0, none⟩)) (hy : a.eval y = .agg cells)
    (t : TypeId) (old : Array Value) (hg : w.heap[g]? = some (.cells old t (0, 0))) (hi : (P.info? ty).map (·.size) = some cells.size)
    (hold : old.size = cells.size) (h1 : cells.all (·.oneCell') = true)
    (h : K (a.put o.dst undef) (w.setRow g cells)) : if Region.wanted o (yielded ops a.tmps) = true then Oper.wp P o a w K Q else E := by
  have hw : Region.wanted o (yielded ops a.tmps) = true := by simp [Region.wanted, hgd]
  rw [if_pos hw]
  exact wp_store_row ty x y ho g cells hx hy t old hg hi hold h1 h
theorem row_run {P : Program} {o : Oper} {a : Act} {w : World} (ty : TypeId) (x : Operand) (ho : o.op = .load ty x) (g : Nat) (hx : a.eval x = .pointer (some ⟨g, 0, none⟩)) (t : TypeId) (cs : Array Value) (fr : Nat × Nat) (d : TypeDesc) (hg : w.heap[g]? = some (.cells cs t fr))
    (hu : P.underlying ty = some d) (hd : (match d with | .struct _ | .array _ _ => true | _ => false) = true) (hi : (P.info? ty).map (·.size) = some cs.size) : (execOp a.eval o).run P w = .ok (.value (.agg cs)) w := by
  unfold execOp
  simp only [ho, hx, Instr.loadAt, Instr.sureAddr, Sem.run_bind, Sem.run_pure, Result.andThen_ok, run_loadVar_row w g t ty cs fr d hg hu hd hi]
theorem all44 {w W : World} {q1 q3 : Nat} {t t2 : TypeId} {x0 x2 : Nat × Obj} {pc rd st en : Int} {g : Nat → Int} {M : Value} {out : ByteArray} {o v2 : Value} {a : Nat} {cc : Int} (h : Kx none w W [x0, (q1, .cells (stc pc g M rd out st en) t (0, 0)), x2, (q3, .cells #[o, .int .i64 (a : Int), v2, .int .i64 cc] t2 (0, 0))]) :
    W.heap[q1]? = some (.cells (stc pc g M rd out st en) t (0, 0)) ∧ W.cell? ⟨q3, 1, none⟩ = some (.int .i64 (a : Int)) ∧ W.cell? ⟨q3, 3, none⟩ = some (.int .i64 cc) ∧ W.cell? ⟨q1, 0, none⟩ = some (.int .i64 pc) :=
  ⟨h.at 1 rfl, row_cell (h.at 3 rfl) 1 rfl, row_cell (h.at 3 rfl) 3 rfl, row_cell (h.at 1 rfl) 0 rfl⟩
set_option maxRecDepth 100000 in
set_option maxHeartbeats 4000000 in
theorem step_call (p : Nat) (g : Nat → Int) (A : Option Addr) (n c : Nat) (rd : Int) (out : ByteArray) (st : Int) {B : Option Addr} {m k : Nat} {code : List Int} {d : Int} (inp : ByteArray) (v : Int) {a b : Nat} {cc : Int} (w : World) (hc : Rd w B m code) (hm : m ≤ 1073741824) (hp : p < m) (hv : code.getD p 0 = v) (hst : -9223372036854775808 ≤ st ∧ st < 4611686018427387904) (hd : dcd v = #[.int .i64 21, .int .i64 (a : Int), .int .i64 (b : Int), .int .i64 cc]) (hde : dce v = 0) (ha : a < 16) (hb : b < 16) (hcc : 0 ≤ cc ∧ cc ≤ 65535)  :
    Calls Tryd.prog 16 #[.agg #[.slice B m k, .int .i64 d], .string inp, .agg (stc (p : Int) g (.slice A n c) rd out st 0)] w fun e w' => e = .returned (.agg (stc cc (gset g a (((p : Int) + 1) % 4294967296)) (.slice A n c) rd out (st + 1) 0)) ∧ Below w.heap.size w w' := by
  have wr2 : ((p : Int) + 1) % 4294967296 = (p : Int) + 1 := by omega
  rw [wr2]
  have hv0 : 0 ≤ v ∧ v < 4294967296 := by rw [← hv]; exact hc.2.2 p
  obtain ⟨bk, off, rfl, hcell⟩ := rd_at9 hc hp
  rw [hv] at hcell
  have hk := (((Kx.nil none w).more (.cells #[.slice (some ⟨bk, off, none⟩) m k, .int .i64 d] 24 (0, 0))).add (w.heap.size + 1) (by simp) (.cells (stc (p : Int) g (.slice A n c) rd out st 0) 30 (0, 0))).add (w.heap.size + 1 + 1) (by simp) (.cells #[.int .i64 0, .int .u32 0, .int .u32 0, .int .u32 0, .int .u32 0, .int .u32 0, .int .u32 0, .int .u32 0, .int .u32 0, .int .u32 0, .int .u32 0, .int .u32 0, .int .u32 0, .int .u32 0, .int .u32 0, .int .u32 0, .int .u32 0, .slice none 0 0, .int .i64 0, .string ⟨#[]⟩, .int .i64 0, .int .i64 0] 30 (0, 0))
  obtain ⟨W0, hW0⟩ : ∃ W, ((w.alloc (.cells #[.slice (some ⟨bk, off, none⟩) m k, .int .i64 d] 24 (0, 0))).alloc (.cells (stc (p : Int) g (.slice A n c) rd out st 0) 30 (0, 0))).alloc (.cells #[.int .i64 0, .int .u32 0, .int .u32 0, .int .u32 0, .int .u32 0, .int .u32 0, .int .u32 0, .int .u32 0, .int .u32 0, .int .u32 0, .int .u32 0, .int .u32 0, .int .u32 0, .int .u32 0, .int .u32 0, .int .u32 0, .int .u32 0, .slice none 0 0, .int .i64 0, .string ⟨#[]⟩, .int .i64 0, .int .i64 0] 30 (0, 0)) = W := ⟨_, rfl⟩
  rw [hW0] at hk
  have ce := row_cell (hk.at 1 rfl) 21 (stc_en _ _ _ _ _ _ _)
  have cp := row_cell (hk.at 1 rfl) 0 (stc_pc _ _ _ _ _ _ _)
  have cm : W0.cell? ⟨w.heap.size, 0, none⟩ = some (.slice (some ⟨bk, off, none⟩) m k) := row_cell (hk.at 0 rfl) 0 rfl
  have cst := row_cell (hk.at 1 rfl) 20 (stc_st _ _ _ _ _ _ _)
  have fst := row_froz (hk.at 1 rfl) 20
  have k1 := hk.putc 1 rfl (.inr (by omega)) 20 (.int .i64 (st + 1)) (set_st _ _ _ _ _ _ _ (st + 1))
  have cp1 := row_cell (k1.at 1 rfl) 0 (stc_pc _ _ _ _ _ _ _)
  have cm1 : (W0.setCell ⟨w.heap.size + 1, 20, none⟩ (.int .i64 (st + 1))).cell? ⟨w.heap.size, 0, none⟩ = some (.slice (some ⟨bk, off, none⟩) m k) := row_cell (k1.at 0 rfl) 0 rfl
  have hb0 : bk < w.heap.size := by
    rcases hc.2.1 with h0 | ⟨b1, o1, e1, hlt, _⟩
    · omega
    · injection e1 with e1
      injection e1 with e1 _ _
      rw [e1]; exact hlt
  have cc1 := (k1.be.plain.cell (p := ⟨bk, off + p, none⟩) hb0).trans hcell
  have p0 : (0 : Int) ≤ (p : Int) := by omega
  have p1 : (p : Int) < (m : Int) := by omega
  have i1 : decide ((p : Int) < 0) = false := decide_eq_false (by omega)
  have i2 : decide ((m : Int) ≤ (p : Int)) = false := decide_eq_false (by omega)
  have w1 : IntKind.i64.wrap (st + 1) = st + 1 := by rw [IntKind.wrap_i64]; omega
  have cd := fun w => decode_ref v w hv0.1 hv0.2
  rw [hd, hde] at cd
  have CD := Lib.hid cd
  have HK1 := Lib.hid k1
  clear cd hk k1 hcell hc hv hv0 hb0
  go_enter Tryd.func16, Tryd.ntmps16
  go_upto_region 6 with fail
  go_wp2_with fail
  refine (CD.out _).mono ?_
  rintro e w2 ⟨rfl, hbl⟩
  have k2 := (HK1.out.after hbl).add w2.heap.size rfl (.cells #[.int .i64 21, .int .i64 (a : Int), .int .i64 (b : Int), .int .i64 cc] 40 (0, 0))
  obtain ⟨w3, hw3⟩ : ∃ W, w2.alloc (.cells #[.int .i64 21, .int .i64 (a : Int), .int .i64 (b : Int), .int .i64 cc] 40 (0, 0)) = W := ⟨_, rfl⟩
  rw [hw3] at k2
  have y0 := row_cell (k2.at 3 rfl) 0 (v := .int .i64 21) rfl
  have y1 := row_cell (k2.at 3 rfl) 1 (v := .int .i64 (a : Int)) rfl
  have y2 := row_cell (k2.at 3 rfl) 2 (v := .int .i64 (b : Int)) rfl
  have y3 := row_cell (k2.at 3 rfl) 3 (v := .int .i64 cc) rfl
  have z0 := row_cell (k2.at 1 rfl) 0 (stc_pc _ _ _ _ _ _ _)
  have za := row_cell (k2.at 1 rfl) (1 + a) (stc_get (p : Int) g (.slice A n c) rd out (st + 1) 0 a ha)
  have a0 : (0 : Int) ≤ (a : Int) := by omega
  have a1 : (a : Int) < 16 := by omega
  have m0 : cc % 4294967296 = cc := by omega
  have wp : IntKind.i64.wrap ((p : Int) + 1) = (p : Int) + 1 := by rw [IntKind.wrap_i64]; omega
  have g0 := Lib.hid (k2.at 1 rfl)
  have HK := Lib.hid k2
  have cs := fun w => set_ref (p : Int) g A n c rd out (st + 1) 0 a ((p : Int) + 1) w ha (by omega)
  have CS := Lib.hid cs
  have cj := fun w => jump_ref ((p : Int) + 1) (gset g a ((p : Int) + 1)) A n c rd out (st + 1) 0 cc w
  have CJ := Lib.hid cj
  have wr1 : IntKind.u32.wrap (p : Int) = (p : Int) := by rw [IntKind.wrap_u32]; omega
  have wr3 : IntKind.u32.wrap ((p : Int) + 1) = (p : Int) + 1 := by rw [IntKind.wrap_u32]; omega
  clear cj
  clear k2 cs hbl
  go_upto_region 44 with fail
  replace HK := Lib.hid HK.out.drew
  refine wp_region_held_drew (S := fun W => W.heap[w.heap.size + 1]? = some (.cells (stc (p : Int) g (.slice A n c) rd out (st + 1) 0) 30 (0, 0)) ∧ W.cell? ⟨w2.heap.size, 1, none⟩ = some (.int .i64 (a : Int)) ∧ W.cell? ⟨w2.heap.size, 3, none⟩ = some (.int .i64 cc) ∧ W.cell? ⟨w.heap.size + 1, 0, none⟩ = some (.int .i64 (p : Int))) (by kernel_rfl) ?hs (fun hH => ?rest)
  case hs => (try dsimp only); with_reducible exact all44 HK.out
  clear y0 y1 y2 y3 z0 za
  refine wpAnyH_take (i := 0) (v := .agg (stc (p : Int) g (.slice A n c) rd out (st + 1) 0)) (by exact op_at rfl) (by kernel_rfl) (by kernel_rfl) (by kernel_rfl) (by exact fun _ _ _ h => h) (Or.inl ⟨by rfl, ?hyx1⟩) hH ?restx1
  case hyx1 => (intro w' hSw; (try dsimp only at hSw); exact row_run 30 _ (by rfl) _ (by rfl) 30 _ _ _ hSw.1 Tryd.underlying30 (by rfl) (infoS2 rfl))
  (try simp only [Act.put, List.setIfInBounds_toArray, List.set_cons_zero, List.set_cons_succ])
  refine wpAnyH_take (i := 1) (v := ?vx2) (by exact op_at rfl) (by kernel_rfl) (by kernel_rfl) (by kernel_rfl) (by exact fun _ _ _ h => h) (Or.inl ⟨by rfl, ?hyx2⟩) hH ?restx2
  case hyx2 => (intro w' hSw; (try dsimp only at hSw); go_simp <;> with_reducible rfl)
  (try simp only [Act.put, List.setIfInBounds_toArray, List.set_cons_zero, List.set_cons_succ])
  refine wpAnyH_take (i := 2) (v := ?vx3) (by exact op_at rfl) (by kernel_rfl) (by kernel_rfl) (by kernel_rfl) (by exact fun _ _ _ h => h) (Or.inl ⟨by rfl, ?hyx3⟩) hH ?restx3
  case hyx3 => (intro w' hSw; (try dsimp only at hSw); go_simp <;> with_reducible rfl)
  (try simp only [Act.put, List.setIfInBounds_toArray, List.set_cons_zero, List.set_cons_succ])
  refine wpAnyH_take (i := 3) (v := ?vx4) (by exact op_at rfl) (by kernel_rfl) (by kernel_rfl) (by kernel_rfl) (by exact fun _ _ _ h => h) (Or.inl ⟨by rfl, ?hyx4⟩) hH ?restx4
  case hyx4 => (intro w' hSw; (try dsimp only at hSw); go_simp <;> with_reducible rfl)
  (try simp only [Act.put, List.setIfInBounds_toArray, List.set_cons_zero, List.set_cons_succ])
  refine wpAnyH_take (i := 4) (v := ?vx5) (by exact op_at rfl) (by kernel_rfl) (by kernel_rfl) (by kernel_rfl) (by exact fun _ _ _ h => h) (Or.inl ⟨by rfl, ?hyx5⟩) hH ?restx5
  case hyx5 => (intro w' hSw; (try dsimp only at hSw); go_simp <;> with_reducible rfl)
  (try simp only [Act.put, List.setIfInBounds_toArray, List.set_cons_zero, List.set_cons_succ])
  refine wpAnyH_take (i := 5) (v := ?vx6) (by exact op_at rfl) (by kernel_rfl) (by kernel_rfl) (by kernel_rfl) (by exact fun _ _ _ h => h) (Or.inl ⟨by rfl, ?hyx6⟩) hH ?restx6
  case hyx6 => (intro w' hSw; (try dsimp only at hSw); go_simp <;> with_reducible rfl)
  (try simp only [Act.put, List.setIfInBounds_toArray, List.set_cons_zero, List.set_cons_succ])
  refine wpAnyH_take (i := 6) (v := ?vx7) (by exact op_at rfl) (by kernel_rfl) (by kernel_rfl) (by kernel_rfl) (by exact fun _ _ _ h => h) (Or.inl ⟨by rfl, ?hyx7⟩) hH ?restx7
  case hyx7 => (intro w' hSw; (try dsimp only at hSw); go_simp <;> with_reducible rfl)
  (try simp only [Act.put, List.setIfInBounds_toArray, List.set_cons_zero, List.set_cons_succ])
  refine wpAnyH_take (i := 8) (v := ?vx8) (by exact op_at rfl) (by kernel_rfl) (by kernel_rfl) (by kernel_rfl) (by exact fun _ _ _ h => h) (Or.inl ⟨by rfl, ?hyx8⟩) hH ?restx8
  case hyx8 => (intro w' hSw; (try dsimp only at hSw); go_simp <;> with_reducible rfl)
  (try simp only [Act.put, List.setIfInBounds_toArray, List.set_cons_zero, List.set_cons_succ])
  refine wpAnyH_take (i := 9) (v := ?vx9) (by exact op_at rfl) (by kernel_rfl) (by kernel_rfl) (by kernel_rfl) (by exact fun _ _ _ h => h) (Or.inl ⟨by rfl, ?hyx9⟩) hH ?restx9
  case hyx9 => (intro w' hSw; (try dsimp only at hSw); go_simp <;> with_reducible rfl)
  (try simp only [Act.put, List.setIfInBounds_toArray, List.set_cons_zero, List.set_cons_succ])
  refine wpAnyH_ready (rs := [7]) (by kernel_rfl) (by simp) ?_
  refine AllReadyH.cons (op_at rfl) (fun K hK => ?_) AllReadyH.nil
  go_simp
  go_at_call 26
  (try simp only [wr1, wr3])
  (with_reducible refine (CS.out _).mono ?_)
  rintro e w5 ⟨rfl, hb5⟩
  replace HK := Lib.hid (HK.out.after hb5)
  clear hb5
  go_simp
  refine hK.out _ _ ?hsx10 (fun hN => ?restx10)
  case hsx10 => (try dsimp only); with_reducible exact all44 HK.out
  clear hK K hH
  have hH := hN
  clear hN
  (try simp only [Act.put, List.setIfInBounds_toArray, List.set_cons_zero, List.set_cons_succ])
  refine wpAnyH_ready (rs := [10]) (by kernel_rfl) (by simp) ?_
  refine AllReadyH.cons (op_at rfl) (fun K hK => ?_) AllReadyH.nil
  go_simp
  go_at_call 29
  (try simp only [wr1, wr3])
  (with_reducible refine (CJ.out _).mono ?_)
  rintro e w5 ⟨rfl, hb5⟩
  replace HK := Lib.hid (HK.out.after hb5)
  clear hb5
  go_simp
  refine hK.out _ _ ?hsx11 (fun hN => ?restx11)
  case hsx11 => (try dsimp only); with_reducible exact all44 HK.out
  clear hK K hH
  have hH := hN
  clear hN
  (try simp only [Act.put, List.setIfInBounds_toArray, List.set_cons_zero, List.set_cons_succ])
  have S1 : Hid ((stc cc (gset g a ((p : Int) + 1)) (.slice A n c) rd out (st + 1) 0).all (·.oneCell') = true) := Lib.hid (stc_one _ _ _ _ _ _ _ _ _)
  refine wpAnyH_ready (rs := [11]) (by kernel_rfl) (by simp) ?_
  refine AllReadyH.cons (op_at rfl) (fun K hK => ?_) AllReadyH.nil
  refine step_store_row9 rfl 30 _ _ rfl (w.heap.size + 1 + 1) (stc cc (gset g a ((p : Int) + 1)) (.slice A n c) rd out (st + 1) 0) (by rfl) (by rfl) 30 _ (HK.out.at 2 rfl) (infoS2 rfl) rfl S1.out ?_
  have HZ := Lib.hid (HK.out.putRow 2 rfl (.inr (by omega)) (stc cc (gset g a ((p : Int) + 1)) (.slice A n c) rd out (st + 1) 0))
  refine hK.out _ _ ?hsx12 (fun hN => ?restx12)
  case hsx12 => (try dsimp only); with_reducible exact all44 HZ.out
  clear hK K hH
  simp only [Act.put]
  refine wpAnyH_done (by kernel_rfl) ?_ _
  go_wp2_with fail
  exact bodyPost_ret (results_cell_row rfl _ _ _ 30 _ _ _ rfl (HZ.out.at 2 rfl) Tryd.underlying30 rfl (infoS2 rfl)) rfl ⟨rfl, HZ.out.be.plain⟩
end Go.Proofs.YtgojpflkhnaedaaDoor
