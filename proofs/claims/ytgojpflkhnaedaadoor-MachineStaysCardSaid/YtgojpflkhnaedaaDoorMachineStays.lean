/- The law MachineStays, its tables laid: for every image, input and state. No condition. -/
import Derived.Test.YtgojpflkhnaedaaDoorMchQ
import Derived.Test.YtgojpflkhnaedaaDoorMchP
import Derived.Test.YtgojpflkhnaedaaDoorMchW
import Derived.Test.YtgojpflkhnaedaaDoorMchT
namespace Go.Proofs.YtgojpflkhnaedaaDoor.machineStays
open Go.ChangeShapes Go.WideShapes Go.ChangeAt Go.RowKit
open Go.ChangeMaps (open_string shut_string)
set_option linter.unusedVariables false

set_option maxRecDepth 100000 in
set_option maxHeartbeats 4000000 in
theorem walk {A B : Option Addr} {n c m k : Nat} {code : List Int} {d : Int} {inp : ByteArray} {x : Mst} (w : World) (hM : m ≤ k ∧ k ≤ maxLen ∧ Rd w B m code ∧ W32s code) (hS : StOk w A n c x) (ht : Tabs w) :
    Calls Tryd.prog 6 #[.agg (asr B m k d inp (stc x.pc x.g (.slice A n c) x.rd x.out x.st x.en))] w fun e w' => e = .returned (.bool true) ∧ Below w.heap.size w w' := by
  have HK := Lib.hid ((Kx.nil none w).more (.cells (asr B m k d inp (stc x.pc x.g (.slice A n c) x.rd x.out x.st x.en)) 34 (0, 0)))
  obtain ⟨W0, hW0⟩ : ∃ W, w.alloc (.cells (asr B m k d inp (stc x.pc x.g (.slice A n c) x.rd x.out x.st x.en)) 34 (0, 0)) = W := ⟨_, rfl⟩
  rw [hW0] at HK
  have g0 := Lib.hid (HK.out.at 0 rfl)
  have a0 := row_cell (HK.out.at 0 rfl) 0 (asr_0 _ _ _ _ _ _)
  have a1 := row_cell (HK.out.at 0 rfl) 1 (asr_1 _ _ _ _ _ _)
  have a2 := row_cell (HK.out.at 0 rfl) 2 (asr_2 _ _ _ _ _ _)
  have CS := Lib.hid (fun w => small9 (A := A) (B := B) (n := n) (c := c) (m := m) (k := k) (d := d) inp x w)
  have HT := Lib.hid ht
  have HM := Lib.hid hM
  obtain ⟨⟨sn1, sn2, hRm, hWm⟩, hWg, hpc, hrd, hst, hen, hos⟩ := hS
  have HN := Lib.hid (And.intro sn1 sn2)
  have HR := Lib.hid hRm
  have HW := Lib.hid hWm
  have HG := Lib.hid hWg
  have HB := Lib.hid (And.intro hst (And.intro hpc (And.intro hrd hen)))
  clear ht hM sn1 sn2 hRm hWm hWg hpc hrd hst hen hos
  by_cases hsm : sml m inp n x
  · by_cases hen : x.en = 0
    · have e1 := beq_iff_eq.2 hen
      have cs := CS.out
      rw [decide_eq_true hsm] at cs
      replace CS := Lib.hid cs
      clear cs
      clear hen
      go_enter Tryd.func6, Tryd.ntmps6
      go_wp2_with (first
        | (refine wpList_load_midg (by rfl) 30 _ rfl _ 3 rfl _ _ (asr_range g0.out) Tryd.underlying30 rfl (infoS2 rfl) ?_)
        | fail)
      refine (CS.out _).mono ?_
      rintro e w1 ⟨rfl, hb⟩
      replace HK := Lib.hid (HK.out.after hb)
      clear hb
      have a24 := asr_cell (HK.out.at 0 rfl) 21 24 rfl (stc_en _ _ _ _ _ _ _)
      clear a0 a1 a2 g0
      go_wp2_with fail
      refine (awake9 _ (HT.out.below HK.out.be.plain)).mono ?_
      rintro e w2 ⟨rfl, hb⟩
      replace HK := Lib.hid (HK.out.after hb)
      clear hb
      go_wp2_with fail
      go_ret
      exact ⟨rfl, HK.out.be.plain⟩
    · have e1 := beq_eq_false_iff_ne.2 hen
      have cs := CS.out
      rw [decide_eq_true hsm] at cs
      replace CS := Lib.hid cs
      clear cs
      obtain ⟨m1, m2, m3, m4, m5⟩ := hsm
      have hb62 := HB.out.1
      have STC := Lib.hid (fun (W : World) (hT : Tabs W) (hc : Rd W B m code) (hR : Rd W A n x.mem) => step9 (c := c) (k := k) (d := d) inp x W hT hc (by omega) hR (by omega) HN.out.1 HN.out.2 HG.out (by omega) (by omega))
      have STR := Lib.hid (fun (W : World) (hc : Rd W B m code) (hR : Rd W A n x.mem) => step9_ref (c := c) (k := k) (d := d) inp x W hc (by omega) hR (by omega) HN.out.1 HN.out.2 HG.out (by omega) (by omega))
      rw [nxt_end hen] at STC
      clear hen
      have CQ : Hid (∀ (W : World) (A1 A2 : Option Addr) (c1 c2 : Nat) (h1 : Rd W A1 n x.mem) (h2 : Rd W A2 n x.mem), Calls Tryd.prog 17 #[.agg (stc x.pc x.g (.slice A1 n c1) x.rd x.out x.st x.en), .agg (stc x.pc x.g (.slice A2 n c2) x.rd x.out x.st x.en)] W fun e w' => e = .returned (.bool true) ∧ Below W.heap.size W w') := Lib.hid (fun W A1 A2 c1 c2 h1 h2 => by
        have h := same9 (c := c1) (e := c2) x x W h1 h2 (by omega) (by omega)
        rwa [decide_eq_true (eqv_self x)] at h)
      go_enter Tryd.func6, Tryd.ntmps6
      go_wp2_with (first
        | (refine wpList_load_midg (by rfl) 30 _ rfl _ 3 rfl _ _ (asr_range g0.out) Tryd.underlying30 rfl (infoS2 rfl) ?_)
        | fail)
      refine (CS.out _).mono ?_
      rintro e w1 ⟨rfl, hb⟩
      replace HK := Lib.hid (HK.out.after hb)
      clear hb
      have a24 := asr_cell (HK.out.at 0 rfl) 21 24 rfl (stc_en _ _ _ _ _ _ _)
      go_upto_region 3 with fail
      clear a0 a1 a2 g0 a24
      replace HK := Lib.hid HK.out.drew
      refine wp_region_held_drew (S := fun W => W.rangeAt w.heap.size 3 (stc x.pc x.g (.slice A n c) x.rd x.out x.st x.en).toList ∧ W.cell? ⟨w.heap.size, 0, none⟩ = some (.slice B m k) ∧ W.cell? ⟨w.heap.size, 1, none⟩ = some (.int .i64 d) ∧ W.cell? ⟨w.heap.size, 2, none⟩ = some (.string inp)) (by kernel_rfl) ?hsx1 (fun hH => ?restx1)
      case hsx1 => (try dsimp only); with_reducible exact all25 HK.out
      refine wpAnyH_ready (rs := [0]) (by kernel_rfl) (by simp) ?_
      refine AllReadyH.cons (op_at rfl) (fun K hK => ?_) AllReadyH.nil
      go_simp
      go_at_call 10
      (with_reducible refine (awake9 _ (HT.out.below HK.out.be.plain)).mono ?_)
      rintro e W1 ⟨rfl, hbb⟩
      replace HK := Lib.hid (HK.out.after hbb)
      clear hbb
      go_simp
      refine hK.out _ _ ?hsx2 (fun hN => ?restx2)
      case hsx2 => (try dsimp only); with_reducible exact all25 HK.out
      clear hK K hH
      have hH := hN
      clear hN
      (try simp only [Act.put, List.setIfInBounds_toArray, List.set_cons_zero, List.set_cons_succ])
      refine wpAnyH_take (i := 1) (v := ?vx3) (by exact op_at rfl) (by kernel_rfl) (by kernel_rfl) (by kernel_rfl) (by exact fun _ _ _ h => h) (Or.inl ⟨by rfl, ?hyx3⟩) hH ?restx3
      case hyx3 => (intro w' hSw; (try dsimp only at hSw); go_simp <;> with_reducible rfl)
      (try simp only [Act.put, List.setIfInBounds_toArray, List.set_cons_zero, List.set_cons_succ])
      refine wpAnyH_take (i := 2) (v := ?vx4) (by exact op_at rfl) (by kernel_rfl) (by kernel_rfl) (by kernel_rfl) (by exact fun _ _ _ h => h) (Or.inl ⟨by rfl, ?hyx4⟩) hH ?restx4
      case hyx4 => (intro w' hSw; (try dsimp only at hSw); go_simp <;> with_reducible rfl)
      (try simp only [Act.put, List.setIfInBounds_toArray, List.set_cons_zero, List.set_cons_succ])
      refine wpAnyH_take (i := 3) (v := ?vx5) (by exact op_at rfl) (by kernel_rfl) (by kernel_rfl) (by kernel_rfl) (by exact fun _ _ _ h => h) (Or.inl ⟨by rfl, ?hyx5⟩) hH ?restx5
      case hyx5 => (intro w' hSw; (try dsimp only at hSw); go_simp <;> with_reducible rfl)
      (try simp only [Act.put, List.setIfInBounds_toArray, List.set_cons_zero, List.set_cons_succ])
      refine wpAnyH_take (i := 4) (v := ?vx6) (by exact op_at rfl) (by kernel_rfl) (by kernel_rfl) (by kernel_rfl) (by exact fun _ _ _ h => h) (Or.inl ⟨by rfl, ?hyx6⟩) hH ?restx6
      case hyx6 => (intro w' hSw; (try dsimp only at hSw); go_simp <;> with_reducible rfl)
      (try simp only [Act.put, List.setIfInBounds_toArray, List.set_cons_zero, List.set_cons_succ])
      refine wpAnyH_take (i := 5) (v := ?vx7) (by exact op_at rfl) (by kernel_rfl) (by kernel_rfl) (by kernel_rfl) (by exact fun _ _ _ h => h) (Or.inl ⟨by rfl, ?hyx7⟩) hH ?restx7
      case hyx7 => (intro w' hSw; (try dsimp only at hSw); go_simp <;> with_reducible rfl)
      (try simp only [Act.put, List.setIfInBounds_toArray, List.set_cons_zero, List.set_cons_succ])
      refine wpAnyH_take (i := 6) (v := ?vx8) (by exact op_at rfl) (by kernel_rfl) (by kernel_rfl) (by kernel_rfl) (by exact fun _ _ _ h => h) (Or.inl ⟨by rfl, ?hyx8⟩) hH ?restx8
      case hyx8 => (intro w' hSw; (try dsimp only at hSw); go_simp <;> with_reducible rfl)
      (try simp only [Act.put, List.setIfInBounds_toArray, List.set_cons_zero, List.set_cons_succ])
      refine wpAnyH_take (i := 7) (v := .agg (stc x.pc x.g (.slice A n c) x.rd x.out x.st x.en)) (by exact op_at rfl) (by kernel_rfl) (by kernel_rfl) (by kernel_rfl) (by exact fun _ _ _ h => h) (Or.inl ⟨by rfl, ?hyx9⟩) hH ?restx9
      case hyx9 => (intro w' hSw; (try dsimp only at hSw); exact row_run_mid 30 _ (by rfl) w.heap.size 3 (by rfl) _ _ hSw.1 Tryd.underlying30 (by rfl) (infoS2 rfl))
      (try simp only [Act.put, List.setIfInBounds_toArray, List.set_cons_zero, List.set_cons_succ])
      refine wpAnyH_take (i := 9) (v := ?vx10) (by exact op_at rfl) (by kernel_rfl) (by kernel_rfl) (by kernel_rfl) (by exact fun _ _ _ h => h) (Or.inl ⟨by rfl, ?hyx10⟩) hH ?restx10
      case hyx10 => (intro w' hSw; (try dsimp only at hSw); go_simp <;> with_reducible rfl)
      (try simp only [Act.put, List.setIfInBounds_toArray, List.set_cons_zero, List.set_cons_succ])
      refine wpAnyH_take (i := 10) (v := .agg (stc x.pc x.g (.slice A n c) x.rd x.out x.st x.en)) (by exact op_at rfl) (by kernel_rfl) (by kernel_rfl) (by kernel_rfl) (by exact fun _ _ _ h => h) (Or.inl ⟨by rfl, ?hyx11⟩) hH ?restx11
      case hyx11 => (intro w' hSw; (try dsimp only at hSw); exact row_run_mid 30 _ (by rfl) w.heap.size 3 (by rfl) _ _ hSw.1 Tryd.underlying30 (by rfl) (infoS2 rfl))
      (try simp only [Act.put, List.setIfInBounds_toArray, List.set_cons_zero, List.set_cons_succ])
      refine wpAnyH_ready (rs := [8]) (by kernel_rfl) (by simp) ?_
      refine AllReadyH.cons (op_at rfl) (fun K hK => ?_) AllReadyH.nil
      go_simp
      go_at_call 15
      (with_reducible refine (STC.out _ (HT.out.below HK.out.be.plain) (HM.out.2.2.1.below HK.out.be.plain) (HR.out.below HK.out.be.plain)).mono ?_)
      rintro e W1 ⟨v1, rfl, ⟨A1, c1, rfl, hr1, _, _, _⟩, hbb⟩
      replace HK := Lib.hid (HK.out.after hbb)
      clear hbb
      go_simp
      refine hK.out _ _ ?hsx12 (fun hN => ?restx12)
      case hsx12 => (try dsimp only); with_reducible exact all25 HK.out
      clear hK K hH
      have hH := hN
      clear hN
      (try simp only [Act.put, List.setIfInBounds_toArray, List.set_cons_zero, List.set_cons_succ])
      refine wpAnyH_ready (rs := [11]) (by kernel_rfl) (by simp) ?_
      refine AllReadyH.cons (op_at rfl) (fun K hK => ?_) AllReadyH.nil
      go_simp
      go_at_call 17
      (with_reducible refine (CQ.out _ _ _ _ _ hr1 (HR.out.below HK.out.be.plain)).mono ?_)
      rintro e W1 ⟨rfl, hbb⟩
      replace HK := Lib.hid (HK.out.after hbb)
      clear hbb
      go_simp
      refine hK.out _ _ ?hsx13 (fun hN => ?restx13)
      case hsx13 => (try dsimp only); with_reducible exact all25 HK.out
      clear hK K hH
      have hH := hN
      clear hN
      (try simp only [Act.put, List.setIfInBounds_toArray, List.set_cons_zero, List.set_cons_succ])
      refine wpAnyH_take (i := 12) (v := ?vx14) (by exact op_at rfl) (by kernel_rfl) (by kernel_rfl) (by kernel_rfl) (by exact fun _ _ _ h => h) (Or.inl ⟨by rfl, ?hyx14⟩) hH ?restx14
      case hyx14 => (intro w' hSw; (try dsimp only at hSw); go_simp <;> with_reducible rfl)
      (try simp only [Act.put, List.setIfInBounds_toArray, List.set_cons_zero, List.set_cons_succ])
      refine wpAnyH_take (i := 13) (v := ?vx15) (by exact op_at rfl) (by kernel_rfl) (by kernel_rfl) (by kernel_rfl) (by exact fun _ _ _ h => h) (Or.inl ⟨by rfl, ?hyx15⟩) hH ?restx15
      case hyx15 => (intro w' hSw; (try dsimp only at hSw); go_simp <;> with_reducible rfl)
      (try simp only [Act.put, List.setIfInBounds_toArray, List.set_cons_zero, List.set_cons_succ])
      refine wpAnyH_done (by kernel_rfl) ?_ _
      go_wp2_with fail
      go_ret
      exact ⟨rfl, HK.out.be.plain⟩
  · have cs := CS.out
    rw [decide_eq_false hsm] at cs
    replace CS := Lib.hid cs
    clear cs
    go_enter Tryd.func6, Tryd.ntmps6
    go_wp2_with (first
      | (refine wpList_load_midg (by rfl) 30 _ rfl _ 3 rfl _ _ (asr_range g0.out) Tryd.underlying30 rfl (infoS2 rfl) ?_)
      | fail)
    refine (CS.out _).mono ?_
    rintro e w1 ⟨rfl, hb⟩
    replace HK := Lib.hid (HK.out.after hb)
    clear hb
    clear a0 a1 a2 g0
    go_wp2_with fail
    refine (awake9 _ (HT.out.below HK.out.be.plain)).mono ?_
    rintro e w2 ⟨rfl, hb⟩
    replace HK := Lib.hid (HK.out.after hb)
    clear hb
    go_wp2_with fail
    go_ret
    exact ⟨rfl, HK.out.be.plain⟩

set_option maxRecDepth 100000 in
theorem contract (H : Type) (enc : TypeId × Value → H) (W : World) (base : Nat) (args : Array Value) (ds gs : List (DataW H)) (before : List MemPlace)
    (hval : ∀ (j : Nat) t v, Tryd.f6.params[j]? = some t → args[j]? = some v → Value.okWide Tryd.prog W .any base t v)
    (hW : DataW.Whole enc Tryd.prog Tryd.f6.params.toList Rows.machineStaysSpec.vars false W args.toList ds gs before) (hL : laidMetH Tryd.prog Rows.machineStaysRow.laid W) :
    Calls Tryd.prog 6 args W fun e W' => ∃ v, e = .returned v ∧ Rows.machineStaysSpec.post enc Tryd.prog Tryd.f6 false true false false W args v W' := by
  have hW' := hW
  obtain ⟨p, q, hA0, hV, rfl, hfz, hnd⟩ := hW
  have hA : DataW.TrodAll enc Tryd.prog W 0 (fun _ => true) true Tryd.f6.params.toList args.toList ds p := hA0
  rw [Tryd.params6] at hA hval
  obtain ⟨v0, vs0, d0, ds0, p0, q0, hargs, rfl, rfl, h0, r0⟩ := trodAll_cons hA
  obtain ⟨rfl, rfl, rfl⟩ := trodAll_nil r0
  obtain rfl : args = #[v0] := by cases args; simp_all
  obtain ⟨rfl, rfl⟩ := trodVars_none hV
  have lt0 : ∀ x ∈ p0, x.block < W.heap.size := by obtain ⟨m, hm⟩ := h0; exact DataW.trod_lt m _ _ _ hm
  obtain ⟨B, m, k, code, d, inp, A, n, c, x, rfl, hM, wd, hi, hS⟩ := open_ask9 (hval 0 34 v0 rfl rfl) h0
  clear hA0
  refine (walk  W hM hS (tabs_of hL)).mono fun e W' ⟨he, bel⟩ => ?_
  subst he
  exact ⟨_, rfl, _, _, _, [], _, [], hW', trodAll_mk1 (shut_bool Tryd.underlying4 _), (trodAll_cons_mk (Below.trod laidOut (by kernel_rfl) (of_decide_eq_true (by kernel_rfl)) h0 bel lt0) trodAll_mk0), rfl, bel.frame _, fun h => by cases h⟩

theorem laid_met (os : Os) : laidMet Tryd.prog Rows.machineStaysRow.laid ((laidWorld os).forCall (fun _ _ => 0) ⟨#[], #[.agg #[.slice none 0 0, .int .i64 0, .string ByteArray.empty, .int .i64 0, .int .u32 0, .int .u32 0, .int .u32 0, .int .u32 0, .int .u32 0, .int .u32 0, .int .u32 0, .int .u32 0, .int .u32 0, .int .u32 0, .int .u32 0, .int .u32 0, .int .u32 0, .int .u32 0, .int .u32 0, .int .u32 0, .slice none 0 0, .int .i64 0, .string ByteArray.empty, .int .i64 0, .int .i64 0]], []⟩).memory :=
  laidMet_of_run' 8 (by kernel_rfl) (by kernel_rfl)
theorem reads (os : Os) {H : Type} (enc : TypeId × Value → H) : ∃ places, DataW.whole enc Tryd.prog ((laidWorld os).forCall (fun _ _ => 0) ⟨#[], #[.agg #[.slice none 0 0, .int .i64 0, .string ByteArray.empty, .int .i64 0, .int .u32 0, .int .u32 0, .int .u32 0, .int .u32 0, .int .u32 0, .int .u32 0, .int .u32 0, .int .u32 0, .int .u32 0, .int .u32 0, .int .u32 0, .int .u32 0, .int .u32 0, .int .u32 0, .int .u32 0, .int .u32 0, .slice none 0 0, .int .i64 0, .string ByteArray.empty, .int .i64 0, .int .i64 0]], []⟩).memory Tryd.f6.params.toList Rows.machineStaysSpec.vars false (#[.agg #[.slice none 0 0, .int .i64 0, .string ByteArray.empty, .int .i64 0, .int .u32 0, .int .u32 0, .int .u32 0, .int .u32 0, .int .u32 0, .int .u32 0, .int .u32 0, .int .u32 0, .int .u32 0, .int .u32 0, .int .u32 0, .int .u32 0, .int .u32 0, .int .u32 0, .int .u32 0, .int .u32 0, .slice none 0 0, .int .i64 0, .string ByteArray.empty, .int .i64 0, .int .i64 0]] : Array Value).toList 8 = some ([.agg [.agg [.nil, .lit (.int .i64 0)], .lit (.string []), .agg [.lit (.int .i64 0), .agg [.lit (.int .u32 0), .lit (.int .u32 0), .lit (.int .u32 0), .lit (.int .u32 0), .lit (.int .u32 0), .lit (.int .u32 0), .lit (.int .u32 0), .lit (.int .u32 0), .lit (.int .u32 0), .lit (.int .u32 0), .lit (.int .u32 0), .lit (.int .u32 0), .lit (.int .u32 0), .lit (.int .u32 0), .lit (.int .u32 0), .lit (.int .u32 0)], .nil, .lit (.int .i64 0), .lit (.string []), .lit (.int .i64 0), .lit (.int .i64 0)]]], [], places) :=
  ⟨[], by kernel_rfl⟩

set_option maxRecDepth 100000 in
theorem lifted (os : Os) (started : os.Started) (H : Type) (enc : TypeId × Value → H) (F : Stop.Interp) :
    ReturnsInHanded {} Tryd.checked os 6 .any ((OpenSpec.ofChange Rows.machineStaysSpec).preRow enc Tryd.prog Tryd.f6 Rows.machineStaysRow.domain false Rows.machineStaysRow.laid) (((OpenSpec.ofChange Rows.machineStaysSpec).at F).post enc Tryd.prog Tryd.f6 false true false false) := by
  obtain ⟨places, hx⟩ := reads os enc
  refine returnsInHanded_of_row (C := Tryd.checked) (s := OpenSpec.ofChange Rows.machineStaysSpec) own started (by kernel_rfl) Tryd.func6
    (witness_row_at (enc := enc) (C := Tryd.checked) false (laidWorld os) #[.agg #[.slice none 0 0, .int .i64 0, .string ByteArray.empty, .int .i64 0, .int .u32 0, .int .u32 0, .int .u32 0, .int .u32 0, .int .u32 0, .int .u32 0, .int .u32 0, .int .u32 0, .int .u32 0, .int .u32 0, .int .u32 0, .int .u32 0, .int .u32 0, .int .u32 0, .int .u32 0, .int .u32 0, .slice none 0 0, .int .i64 0, .string ByteArray.empty, .int .i64 0, .int .i64 0]] rfl (by kernel_rfl) (by kernel_rfl) (by kernel_rfl)
      (OpenSpec.preRow_of_cond 8 hx (by kernel_rfl) (fun k hk => by cases hk) (by kernel_rfl) (laid_met os))) ?_
  intro W base args ds gs before hval hW _ _ _ hL _ _
  exact contract H enc W base args ds gs before hval hW hL

theorem said : Rows.MachineStaysSaid :=
  OpenClaim.holds_of_cond 6 Tryd.f6 rfl rfl rfl rfl rfl rfl rfl ⟨rfl, rfl, rfl, rfl, rfl⟩ rfl rfl rfl rfl rfl (by kernel_rfl) Tryd.func6 (by kernel_rfl)
    (of_decide_eq_true (by kernel_rfl)) (by unfold Func.isWrapper; first | (rw [if_pos (by decide +kernel)]; kernel_rfl) | (rw [if_neg (by decide +kernel)]; exact ⟨rfl, rfl⟩))
    (fun os started H enc _ F => by rw [OpenClaim.pre_eq_preRow]; exact lifted os started H enc F)

theorem plain (f : FuncId) (fn : Func) (hf : Tryd.pinned.checked.prog.funcNamed "seedcorn/seedcornlaw09.MachineStays" = some f) (hfn : Tryd.pinned.checked.prog.funcs[f]? = some fn) :
    false = Tryd.pinned.checked.prog.looks [] ∧ ∀ (j : Nat) t, fn.params[j]? = some t → Tryd.pinned.checked.prog.wantsStandIn t = false := by
  obtain rfl : f = 6 := Option.some.inj ((show Tryd.prog.funcNamed "seedcorn/seedcornlaw09.MachineStays" = some 6 by kernel_rfl).symm.trans hf) |>.symm
  obtain rfl : fn = Tryd.f6 := (Option.some.inj (Tryd.func6.symm.trans hfn)).symm
  refine ⟨by kernel_rfl, fun j t ht => ?_⟩
  rw [Tryd.params6] at ht
  have hm := Array.mem_of_getElem? ht
  have hm' : t = 34 := by simpa using hm
  rcases hm' with rfl
  · exact (show Tryd.prog.wantsStandIn 34 = false by kernel_rfl)

/-- The card. -/
theorem card : Rows.MachineStaysCardSaid :=
  Claim7.holds_tied_plain_at .later [] _ _ _ _ said (fun _ h => by cases h) (by kernel_rfl) (fun _ h => by cases h) machineStays_row_tie rfl ⟨rfl, rfl⟩ (by kernel_rfl) rfl plain (by kernel_rfl)
end Go.Proofs.YtgojpflkhnaedaaDoor.machineStays
