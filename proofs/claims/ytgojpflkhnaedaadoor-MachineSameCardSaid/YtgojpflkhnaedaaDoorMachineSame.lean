/- The law MachineSame, its tables laid: for any two states. No condition. -/
import Derived.Test.YtgojpflkhnaedaaDoorMchQ
import Derived.Test.YtgojpflkhnaedaaDoorMchP
import Derived.Test.YtgojpflkhnaedaaDoorMchW
namespace Go.Proofs.YtgojpflkhnaedaaDoor.machineSame
open Go.ChangeShapes Go.WideShapes Go.ChangeAt Go.RowKit
open Go.ChangeMaps (open_string shut_string)
set_option linter.unusedVariables false

set_option maxRecDepth 100000 in
set_option maxHeartbeats 4000000 in
theorem walk {A B : Option Addr} {n c m e : Nat} {x y : Mst} (w : World) (hS : StOk w A n c x) (hZ : StOk w B m e y) (ht : Tabs w) :
    Calls Tryd.prog 9 #[.agg (stc x.pc x.g (.slice A n c) x.rd x.out x.st x.en), .agg (stc y.pc y.g (.slice B m e) y.rd y.out y.st y.en)] w fun e w' => e = .returned (.bool true) ∧ Below w.heap.size w w' := by
  have HK := Lib.hid (((Kx.nil none w).more (.cells (stc x.pc x.g (.slice A n c) x.rd x.out x.st x.en) 30 (0, 0))).add (w.heap.size + 1) (by simp) (.cells (stc y.pc y.g (.slice B m e) y.rd y.out y.st y.en) 30 (0, 0)))
  obtain ⟨W0, hW0⟩ : ∃ W, (w.alloc (.cells (stc x.pc x.g (.slice A n c) x.rd x.out x.st x.en) 30 (0, 0))).alloc (.cells (stc y.pc y.g (.slice B m e) y.rd y.out y.st y.en) 30 (0, 0)) = W := ⟨_, rfl⟩
  rw [hW0] at HK
  have a2 := row_cell (HK.out.at 0 rfl) 17 (stc_mem _ _ _ _ _ _ _)
  have b2 := row_cell (HK.out.at 1 rfl) 17 (stc_mem _ _ _ _ _ _ _)
  have a4 := row_cell (HK.out.at 0 rfl) 19 (stc_out _ _ _ _ _ _ _)
  have b4 := row_cell (HK.out.at 1 rfl) 19 (stc_out _ _ _ _ _ _ _)
  have HT := Lib.hid ht
  have HR := Lib.hid hS.1.2.2.1
  have HQ := Lib.hid hZ.1.2.2.1
  clear ht hS hZ
  by_cases h0 : n ≤ 200
  · by_cases h1 : m ≤ 200
    · by_cases h2 : x.out.size ≤ 200
      · by_cases h3 : y.out.size ≤ 200
        · have e0 : decide ((200 : Int) < (n : Int)) = false := decide_eq_false (by omega)
          have e1 : decide ((200 : Int) < (m : Int)) = false := decide_eq_false (by omega)
          have e2 : decide ((200 : Int) < (x.out.size : Int)) = false := decide_eq_false (by omega)
          have e3 : decide ((200 : Int) < (y.out.size : Int)) = false := decide_eq_false (by omega)
          obtain ⟨r, hr⟩ : ∃ r : Bool, decide (x.eqv y) = r := ⟨_, rfl⟩
          have CA : Hid (∀ (W : World) (h1 : Rd W A n x.mem) (h2 : Rd W B m y.mem), Calls Tryd.prog 17 #[.agg (stc x.pc x.g (.slice A n c) x.rd x.out x.st x.en), .agg (stc y.pc y.g (.slice B m e) y.rd y.out y.st y.en)] W fun e w' => e = .returned (.bool r) ∧ Below W.heap.size W w') := Lib.hid (fun W h1 h2 => by
            have h := same9 (c := c) (e := e) x y W h1 h2 (by omega) (by omega)
            rwa [hr] at h)
          have CB : Hid (∀ (W : World) (h1 : Rd W A n x.mem) (h2 : Rd W B m y.mem), Calls Tryd.prog 11 #[.agg (stc x.pc x.g (.slice A n c) x.rd x.out x.st x.en), .agg (stc y.pc y.g (.slice B m e) y.rd y.out y.st y.en)] W fun e w' => e = .returned (.bool r) ∧ Below W.heap.size W w') := Lib.hid (fun W h1 h2 => by
            have h := same9_ref (c := c) (e := e) x y W h1 h2 (by omega) (by omega)
            rwa [hr] at h)
          have CC : Hid (∀ (W : World) (h1 : Rd W A n x.mem), Calls Tryd.prog 17 #[.agg (stc x.pc x.g (.slice A n c) x.rd x.out x.st x.en), .agg (stc x.pc x.g (.slice A n c) x.rd x.out x.st x.en)] W fun e w' => e = .returned (.bool true) ∧ Below W.heap.size W w') := Lib.hid (fun W h1 => by
            have h := same9 (c := c) (e := c) x x W h1 h1 (by omega) (by omega)
            rwa [decide_eq_true (eqv_self x)] at h)
          clear hr h0 h1 h2 h3
          go_enter Tryd.func9, Tryd.ntmps9
          go_upto_region 3 with fail
          clear a2 b2 a4 b4
          replace HK := Lib.hid HK.out.drew
          refine wp_region_held_drew (S := fun W => W.heap[w.heap.size]? = some (.cells (stc x.pc x.g (.slice A n c) x.rd x.out x.st x.en) 30 (0, 0)) ∧ W.heap[w.heap.size + 1]? = some (.cells (stc y.pc y.g (.slice B m e) y.rd y.out y.st y.en) 30 (0, 0))) (by kernel_rfl) ?hsx1 (fun hH => ?restx1)
          case hsx1 => (try dsimp only); with_reducible exact And.intro (HK.out.at 0 rfl) (HK.out.at 1 rfl)
          refine wpAnyH_ready (rs := [0]) (by kernel_rfl) (by simp) ?_
          refine AllReadyH.cons (op_at rfl) (fun K hK => ?_) AllReadyH.nil
          go_simp
          go_at_call 10
          (with_reducible refine (awake9 _ (HT.out.below HK.out.be.plain)).mono ?_)
          rintro e W1 ⟨rfl, hbb⟩
          replace HK := Lib.hid (HK.out.after hbb)
          clear hbb
          go_simp
          refine hK.out _ _ ?hsx2 (fun hN => ?restx2)
          case hsx2 => (try dsimp only); with_reducible exact And.intro (HK.out.at 0 rfl) (HK.out.at 1 rfl)
          clear hK K hH
          have hH := hN
          clear hN
          (try simp only [Act.put, List.setIfInBounds_toArray, List.set_cons_zero, List.set_cons_succ])
          refine wpAnyH_take (i := 1) (v := ?vx3) (by exact op_at rfl) (by kernel_rfl) (by kernel_rfl) (by kernel_rfl) (by exact fun _ _ _ h => h) (Or.inl ⟨by rfl, ?hyx3⟩) hH ?restx3
          case hyx3 => (intro w' hSw; (try dsimp only at hSw); go_simp <;> with_reducible rfl)
          (try simp only [Act.put, List.setIfInBounds_toArray, List.set_cons_zero, List.set_cons_succ])
          refine wpAnyH_take (i := 2) (v := .agg (stc x.pc x.g (.slice A n c) x.rd x.out x.st x.en)) (by exact op_at rfl) (by kernel_rfl) (by kernel_rfl) (by kernel_rfl) (by exact fun _ _ _ h => h) (Or.inl ⟨by rfl, ?hyx4⟩) hH ?restx4
          case hyx4 => (intro w' hSw; (try dsimp only at hSw); exact row_run 30 _ (by rfl) _ (by rfl) 30 _ _ _ hSw.1 Tryd.underlying30 (by rfl) (infoS2 rfl))
          (try simp only [Act.put, List.setIfInBounds_toArray, List.set_cons_zero, List.set_cons_succ])
          refine wpAnyH_take (i := 3) (v := .agg (stc y.pc y.g (.slice B m e) y.rd y.out y.st y.en)) (by exact op_at rfl) (by kernel_rfl) (by kernel_rfl) (by kernel_rfl) (by exact fun _ _ _ h => h) (Or.inl ⟨by rfl, ?hyx5⟩) hH ?restx5
          case hyx5 => (intro w' hSw; (try dsimp only at hSw); exact row_run 30 _ (by rfl) _ (by rfl) 30 _ _ _ hSw.2 Tryd.underlying30 (by rfl) (infoS2 rfl))
          (try simp only [Act.put, List.setIfInBounds_toArray, List.set_cons_zero, List.set_cons_succ])
          refine wpAnyH_take (i := 5) (v := .agg (stc x.pc x.g (.slice A n c) x.rd x.out x.st x.en)) (by exact op_at rfl) (by kernel_rfl) (by kernel_rfl) (by kernel_rfl) (by exact fun _ _ _ h => h) (Or.inl ⟨by rfl, ?hyx6⟩) hH ?restx6
          case hyx6 => (intro w' hSw; (try dsimp only at hSw); exact row_run 30 _ (by rfl) _ (by rfl) 30 _ _ _ hSw.1 Tryd.underlying30 (by rfl) (infoS2 rfl))
          (try simp only [Act.put, List.setIfInBounds_toArray, List.set_cons_zero, List.set_cons_succ])
          refine wpAnyH_take (i := 6) (v := .agg (stc y.pc y.g (.slice B m e) y.rd y.out y.st y.en)) (by exact op_at rfl) (by kernel_rfl) (by kernel_rfl) (by kernel_rfl) (by exact fun _ _ _ h => h) (Or.inl ⟨by rfl, ?hyx7⟩) hH ?restx7
          case hyx7 => (intro w' hSw; (try dsimp only at hSw); exact row_run 30 _ (by rfl) _ (by rfl) 30 _ _ _ hSw.2 Tryd.underlying30 (by rfl) (infoS2 rfl))
          (try simp only [Act.put, List.setIfInBounds_toArray, List.set_cons_zero, List.set_cons_succ])
          refine wpAnyH_ready (rs := [4]) (by kernel_rfl) (by simp) ?_
          refine AllReadyH.cons (op_at rfl) (fun K hK => ?_) AllReadyH.nil
          go_simp
          go_at_call 17
          (with_reducible refine (CA.out _ (HR.out.below HK.out.be.plain) (HQ.out.below HK.out.be.plain)).mono ?_)
          rintro e W1 ⟨rfl, hbb⟩
          replace HK := Lib.hid (HK.out.after hbb)
          clear hbb
          go_simp
          refine hK.out _ _ ?hsx8 (fun hN => ?restx8)
          case hsx8 => (try dsimp only); with_reducible exact And.intro (HK.out.at 0 rfl) (HK.out.at 1 rfl)
          clear hK K hH
          have hH := hN
          clear hN
          (try simp only [Act.put, List.setIfInBounds_toArray, List.set_cons_zero, List.set_cons_succ])
          refine wpAnyH_ready (rs := [7]) (by kernel_rfl) (by simp) ?_
          refine AllReadyH.cons (op_at rfl) (fun K hK => ?_) AllReadyH.nil
          go_simp
          go_at_call 11
          (with_reducible refine (CB.out _ (HR.out.below HK.out.be.plain) (HQ.out.below HK.out.be.plain)).mono ?_)
          rintro e W1 ⟨rfl, hbb⟩
          replace HK := Lib.hid (HK.out.after hbb)
          clear hbb
          go_simp
          refine hK.out _ _ ?hsx9 (fun hN => ?restx9)
          case hsx9 => (try dsimp only); with_reducible exact And.intro (HK.out.at 0 rfl) (HK.out.at 1 rfl)
          clear hK K hH
          have hH := hN
          clear hN
          (try simp only [Act.put, List.setIfInBounds_toArray, List.set_cons_zero, List.set_cons_succ])
          refine wpAnyH_take (i := 8) (v := ?vx10) (by exact op_at rfl) (by kernel_rfl) (by kernel_rfl) (by kernel_rfl) (by exact fun _ _ _ h => h) (Or.inl ⟨by rfl, ?hyx10⟩) hH ?restx10
          case hyx10 => (intro w' hSw; (try dsimp only at hSw); go_simp <;> with_reducible rfl)
          (try simp only [Act.put, List.setIfInBounds_toArray, List.set_cons_zero, List.set_cons_succ])
          refine wpAnyH_take (i := 9) (v := ?vx11) (by exact op_at rfl) (by kernel_rfl) (by kernel_rfl) (by kernel_rfl) (by exact fun _ _ _ h => h) (Or.inl ⟨by rfl, ?hyx11⟩) hH ?restx11
          case hyx11 => (intro w' hSw; (try dsimp only at hSw); go_simp <;> with_reducible rfl)
          (try simp only [Act.put, List.setIfInBounds_toArray, List.set_cons_zero, List.set_cons_succ])
          refine wpAnyH_take (i := 10) (v := ?vx12) (by exact op_at rfl) (by kernel_rfl) (by kernel_rfl) (by kernel_rfl) (by exact fun _ _ _ h => h) (Or.inl ⟨by rfl, ?hyx12⟩) hH ?restx12
          case hyx12 => (intro w' hSw; (try dsimp only at hSw); go_simp <;> with_reducible rfl)
          (try simp only [Act.put, List.setIfInBounds_toArray, List.set_cons_zero, List.set_cons_succ])
          refine wpAnyH_take (i := 11) (v := .agg (stc x.pc x.g (.slice A n c) x.rd x.out x.st x.en)) (by exact op_at rfl) (by kernel_rfl) (by kernel_rfl) (by kernel_rfl) (by exact fun _ _ _ h => h) (Or.inl ⟨by rfl, ?hyx13⟩) hH ?restx13
          case hyx13 => (intro w' hSw; (try dsimp only at hSw); exact row_run 30 _ (by rfl) _ (by rfl) 30 _ _ _ hSw.1 Tryd.underlying30 (by rfl) (infoS2 rfl))
          (try simp only [Act.put, List.setIfInBounds_toArray, List.set_cons_zero, List.set_cons_succ])
          refine wpAnyH_take (i := 12) (v := .agg (stc x.pc x.g (.slice A n c) x.rd x.out x.st x.en)) (by exact op_at rfl) (by kernel_rfl) (by kernel_rfl) (by kernel_rfl) (by exact fun _ _ _ h => h) (Or.inl ⟨by rfl, ?hyx14⟩) hH ?restx14
          case hyx14 => (intro w' hSw; (try dsimp only at hSw); exact row_run 30 _ (by rfl) _ (by rfl) 30 _ _ _ hSw.1 Tryd.underlying30 (by rfl) (infoS2 rfl))
          (try simp only [Act.put, List.setIfInBounds_toArray, List.set_cons_zero, List.set_cons_succ])
          refine wpAnyH_ready (rs := [13]) (by kernel_rfl) (by simp) ?_
          refine AllReadyH.cons (op_at rfl) (fun K hK => ?_) AllReadyH.nil
          go_simp
          go_at_call 17
          (with_reducible refine (CC.out _ (HR.out.below HK.out.be.plain)).mono ?_)
          rintro e W1 ⟨rfl, hbb⟩
          replace HK := Lib.hid (HK.out.after hbb)
          clear hbb
          go_simp
          refine hK.out _ _ ?hsx15 (fun hN => ?restx15)
          case hsx15 => (try dsimp only); with_reducible exact And.intro (HK.out.at 0 rfl) (HK.out.at 1 rfl)
          clear hK K hH
          have hH := hN
          clear hN
          (try simp only [Act.put, List.setIfInBounds_toArray, List.set_cons_zero, List.set_cons_succ])
          refine wpAnyH_take (i := 14) (v := ?vx16) (by exact op_at rfl) (by kernel_rfl) (by kernel_rfl) (by kernel_rfl) (by exact fun _ _ _ h => h) (Or.inl ⟨by rfl, ?hyx16⟩) hH ?restx16
          case hyx16 => (intro w' hSw; (try dsimp only at hSw); go_simp <;> with_reducible rfl)
          (try simp only [Act.put, List.setIfInBounds_toArray, List.set_cons_zero, List.set_cons_succ])
          refine wpAnyH_take (i := 15) (v := ?vx17) (by exact op_at rfl) (by kernel_rfl) (by kernel_rfl) (by kernel_rfl) (by exact fun _ _ _ h => h) (Or.inl ⟨by rfl, ?hyx17⟩) hH ?restx17
          case hyx17 => (intro w' hSw; (try dsimp only at hSw); go_simp <;> with_reducible rfl)
          (try simp only [Act.put, List.setIfInBounds_toArray, List.set_cons_zero, List.set_cons_succ])
          refine wpAnyH_done (by kernel_rfl) ?_ _
          go_wp2_with fail
          go_ret
          exact ⟨rfl, HK.out.be.plain⟩
        · have e0 : decide ((200 : Int) < (n : Int)) = false := decide_eq_false (by omega)
          have e1 : decide ((200 : Int) < (m : Int)) = false := decide_eq_false (by omega)
          have e2 : decide ((200 : Int) < (x.out.size : Int)) = false := decide_eq_false (by omega)
          have e3 : decide ((200 : Int) < (y.out.size : Int)) = true := decide_eq_true (by omega)
          clear h0 h1 h2 h3
          go_enter Tryd.func9, Tryd.ntmps9
          go_wp2_with fail
          refine (awake9 _ (HT.out.below HK.out.be.plain)).mono ?_
          rintro e w2 ⟨rfl, hb⟩
          replace HK := Lib.hid (HK.out.after hb)
          clear hb
          go_wp2_with fail
          go_ret
          exact ⟨rfl, HK.out.be.plain⟩
      · have e0 : decide ((200 : Int) < (n : Int)) = false := decide_eq_false (by omega)
        have e1 : decide ((200 : Int) < (m : Int)) = false := decide_eq_false (by omega)
        have e2 : decide ((200 : Int) < (x.out.size : Int)) = true := decide_eq_true (by omega)
        clear h0 h1 h2
        go_enter Tryd.func9, Tryd.ntmps9
        go_wp2_with fail
        refine (awake9 _ (HT.out.below HK.out.be.plain)).mono ?_
        rintro e w2 ⟨rfl, hb⟩
        replace HK := Lib.hid (HK.out.after hb)
        clear hb
        go_wp2_with fail
        go_ret
        exact ⟨rfl, HK.out.be.plain⟩
    · have e0 : decide ((200 : Int) < (n : Int)) = false := decide_eq_false (by omega)
      have e1 : decide ((200 : Int) < (m : Int)) = true := decide_eq_true (by omega)
      clear h0 h1
      go_enter Tryd.func9, Tryd.ntmps9
      go_wp2_with fail
      refine (awake9 _ (HT.out.below HK.out.be.plain)).mono ?_
      rintro e w2 ⟨rfl, hb⟩
      replace HK := Lib.hid (HK.out.after hb)
      clear hb
      go_wp2_with fail
      go_ret
      exact ⟨rfl, HK.out.be.plain⟩
  · have e0 : decide ((200 : Int) < (n : Int)) = true := decide_eq_true (by omega)
    clear h0
    go_enter Tryd.func9, Tryd.ntmps9
    go_wp2_with fail
    refine (awake9 _ (HT.out.below HK.out.be.plain)).mono ?_
    rintro e w2 ⟨rfl, hb⟩
    replace HK := Lib.hid (HK.out.after hb)
    clear hb
    go_wp2_with fail
    go_ret
    exact ⟨rfl, HK.out.be.plain⟩

set_option maxRecDepth 100000 in
theorem contract (H : Type) (enc : TypeId × Value → H) (W : World) (base : Nat) (args : Array Value) (ds gs : List (DataW H)) (before : List MemPlace)
    (hval : ∀ (j : Nat) t v, Tryd.f9.params[j]? = some t → args[j]? = some v → Value.okWide Tryd.prog W .any base t v)
    (hW : DataW.Whole enc Tryd.prog Tryd.f9.params.toList Rows.machineSameSpec.vars false W args.toList ds gs before) (hL : laidMetH Tryd.prog Rows.machineSameRow.laid W) :
    Calls Tryd.prog 9 args W fun e W' => ∃ v, e = .returned v ∧ Rows.machineSameSpec.post enc Tryd.prog Tryd.f9 false true false false W args v W' := by
  have hW' := hW
  obtain ⟨p, q, hA0, hV, rfl, hfz, hnd⟩ := hW
  have hA : DataW.TrodAll enc Tryd.prog W 0 (fun _ => true) true Tryd.f9.params.toList args.toList ds p := hA0
  rw [Tryd.params9] at hA hval
  obtain ⟨v0, vs0, d0, ds0, p0, q0, hargs, rfl, rfl, h0, r0⟩ := trodAll_cons hA
  obtain ⟨v1, vs1, d1, ds1, p1, q1, rfl, rfl, rfl, h1, r1⟩ := trodAll_cons r0
  obtain ⟨rfl, rfl, rfl⟩ := trodAll_nil r1
  obtain rfl : args = #[v0, v1] := by cases args; simp_all
  obtain ⟨rfl, rfl⟩ := trodVars_none hV
  have lt0 : ∀ x ∈ p0, x.block < W.heap.size := by obtain ⟨m, hm⟩ := h0; exact DataW.trod_lt m _ _ _ hm
  obtain ⟨A0, n0, c0, x0, rfl, hS0⟩ := open_st (hval 0 30 v0 rfl rfl) h0
  have lt1 : ∀ x ∈ p1, x.block < W.heap.size := by obtain ⟨m, hm⟩ := h1; exact DataW.trod_lt m _ _ _ hm
  obtain ⟨A1, n1, c1, x1, rfl, hS1⟩ := open_st (hval 1 30 v1 rfl rfl) h1
  clear hA0
  refine (walk  W hS0 hS1 (tabs_of hL)).mono fun e W' ⟨he, bel⟩ => ?_
  subst he
  exact ⟨_, rfl, _, _, _, [], _, [], hW', trodAll_mk1 (shut_bool Tryd.underlying4 _), (trodAll_cons_mk (Below.trod laidOut (by kernel_rfl) (of_decide_eq_true (by kernel_rfl)) h0 bel lt0) (trodAll_cons_mk (Below.trod laidOut (by kernel_rfl) (of_decide_eq_true (by kernel_rfl)) h1 bel lt1) trodAll_mk0)), rfl, bel.frame _, fun h => by cases h⟩

theorem laid_met (os : Os) : laidMet Tryd.prog Rows.machineSameRow.laid ((laidWorld os).forCall (fun _ _ => 0) ⟨#[], #[.agg #[.int .i64 0, .int .u32 0, .int .u32 0, .int .u32 0, .int .u32 0, .int .u32 0, .int .u32 0, .int .u32 0, .int .u32 0, .int .u32 0, .int .u32 0, .int .u32 0, .int .u32 0, .int .u32 0, .int .u32 0, .int .u32 0, .int .u32 0, .slice none 0 0, .int .i64 0, .string ByteArray.empty, .int .i64 0, .int .i64 0], .agg #[.int .i64 0, .int .u32 0, .int .u32 0, .int .u32 0, .int .u32 0, .int .u32 0, .int .u32 0, .int .u32 0, .int .u32 0, .int .u32 0, .int .u32 0, .int .u32 0, .int .u32 0, .int .u32 0, .int .u32 0, .int .u32 0, .int .u32 0, .slice none 0 0, .int .i64 0, .string ByteArray.empty, .int .i64 0, .int .i64 0]], []⟩).memory :=
  laidMet_of_run' 8 (by kernel_rfl) (by kernel_rfl)
theorem reads (os : Os) {H : Type} (enc : TypeId × Value → H) : ∃ places, DataW.whole enc Tryd.prog ((laidWorld os).forCall (fun _ _ => 0) ⟨#[], #[.agg #[.int .i64 0, .int .u32 0, .int .u32 0, .int .u32 0, .int .u32 0, .int .u32 0, .int .u32 0, .int .u32 0, .int .u32 0, .int .u32 0, .int .u32 0, .int .u32 0, .int .u32 0, .int .u32 0, .int .u32 0, .int .u32 0, .int .u32 0, .slice none 0 0, .int .i64 0, .string ByteArray.empty, .int .i64 0, .int .i64 0], .agg #[.int .i64 0, .int .u32 0, .int .u32 0, .int .u32 0, .int .u32 0, .int .u32 0, .int .u32 0, .int .u32 0, .int .u32 0, .int .u32 0, .int .u32 0, .int .u32 0, .int .u32 0, .int .u32 0, .int .u32 0, .int .u32 0, .int .u32 0, .slice none 0 0, .int .i64 0, .string ByteArray.empty, .int .i64 0, .int .i64 0]], []⟩).memory Tryd.f9.params.toList Rows.machineSameSpec.vars false (#[.agg #[.int .i64 0, .int .u32 0, .int .u32 0, .int .u32 0, .int .u32 0, .int .u32 0, .int .u32 0, .int .u32 0, .int .u32 0, .int .u32 0, .int .u32 0, .int .u32 0, .int .u32 0, .int .u32 0, .int .u32 0, .int .u32 0, .int .u32 0, .slice none 0 0, .int .i64 0, .string ByteArray.empty, .int .i64 0, .int .i64 0], .agg #[.int .i64 0, .int .u32 0, .int .u32 0, .int .u32 0, .int .u32 0, .int .u32 0, .int .u32 0, .int .u32 0, .int .u32 0, .int .u32 0, .int .u32 0, .int .u32 0, .int .u32 0, .int .u32 0, .int .u32 0, .int .u32 0, .int .u32 0, .slice none 0 0, .int .i64 0, .string ByteArray.empty, .int .i64 0, .int .i64 0]] : Array Value).toList 8 = some ([.agg [.lit (.int .i64 0), .agg [.lit (.int .u32 0), .lit (.int .u32 0), .lit (.int .u32 0), .lit (.int .u32 0), .lit (.int .u32 0), .lit (.int .u32 0), .lit (.int .u32 0), .lit (.int .u32 0), .lit (.int .u32 0), .lit (.int .u32 0), .lit (.int .u32 0), .lit (.int .u32 0), .lit (.int .u32 0), .lit (.int .u32 0), .lit (.int .u32 0), .lit (.int .u32 0)], .nil, .lit (.int .i64 0), .lit (.string []), .lit (.int .i64 0), .lit (.int .i64 0)], .agg [.lit (.int .i64 0), .agg [.lit (.int .u32 0), .lit (.int .u32 0), .lit (.int .u32 0), .lit (.int .u32 0), .lit (.int .u32 0), .lit (.int .u32 0), .lit (.int .u32 0), .lit (.int .u32 0), .lit (.int .u32 0), .lit (.int .u32 0), .lit (.int .u32 0), .lit (.int .u32 0), .lit (.int .u32 0), .lit (.int .u32 0), .lit (.int .u32 0), .lit (.int .u32 0)], .nil, .lit (.int .i64 0), .lit (.string []), .lit (.int .i64 0), .lit (.int .i64 0)]], [], places) :=
  ⟨[], by kernel_rfl⟩

set_option maxRecDepth 100000 in
theorem lifted (os : Os) (started : os.Started) (H : Type) (enc : TypeId × Value → H) (F : Stop.Interp) :
    ReturnsInHanded {} Tryd.checked os 9 .any ((OpenSpec.ofChange Rows.machineSameSpec).preRow enc Tryd.prog Tryd.f9 Rows.machineSameRow.domain false Rows.machineSameRow.laid) (((OpenSpec.ofChange Rows.machineSameSpec).at F).post enc Tryd.prog Tryd.f9 false true false false) := by
  obtain ⟨places, hx⟩ := reads os enc
  refine returnsInHanded_of_row (C := Tryd.checked) (s := OpenSpec.ofChange Rows.machineSameSpec) own started (by kernel_rfl) Tryd.func9
    (witness_row_at (enc := enc) (C := Tryd.checked) false (laidWorld os) #[.agg #[.int .i64 0, .int .u32 0, .int .u32 0, .int .u32 0, .int .u32 0, .int .u32 0, .int .u32 0, .int .u32 0, .int .u32 0, .int .u32 0, .int .u32 0, .int .u32 0, .int .u32 0, .int .u32 0, .int .u32 0, .int .u32 0, .int .u32 0, .slice none 0 0, .int .i64 0, .string ByteArray.empty, .int .i64 0, .int .i64 0], .agg #[.int .i64 0, .int .u32 0, .int .u32 0, .int .u32 0, .int .u32 0, .int .u32 0, .int .u32 0, .int .u32 0, .int .u32 0, .int .u32 0, .int .u32 0, .int .u32 0, .int .u32 0, .int .u32 0, .int .u32 0, .int .u32 0, .int .u32 0, .slice none 0 0, .int .i64 0, .string ByteArray.empty, .int .i64 0, .int .i64 0]] rfl (by kernel_rfl) (by kernel_rfl) (by kernel_rfl)
      (OpenSpec.preRow_of_cond 8 hx (by kernel_rfl) (fun k hk => by cases hk) (by kernel_rfl) (laid_met os))) ?_
  intro W base args ds gs before hval hW _ _ _ hL _ _
  exact contract H enc W base args ds gs before hval hW hL

theorem said : Rows.MachineSameSaid :=
  OpenClaim.holds_of_cond 9 Tryd.f9 rfl rfl rfl rfl rfl rfl rfl ⟨rfl, rfl, rfl, rfl, rfl⟩ rfl rfl rfl rfl rfl (by kernel_rfl) Tryd.func9 (by kernel_rfl)
    (of_decide_eq_true (by kernel_rfl)) (by unfold Func.isWrapper; first | (rw [if_pos (by decide +kernel)]; kernel_rfl) | (rw [if_neg (by decide +kernel)]; exact ⟨rfl, rfl⟩))
    (fun os started H enc _ F => by rw [OpenClaim.pre_eq_preRow]; exact lifted os started H enc F)

theorem plain (f : FuncId) (fn : Func) (hf : Tryd.pinned.checked.prog.funcNamed "seedcorn/seedcornlaw09.MachineSame" = some f) (hfn : Tryd.pinned.checked.prog.funcs[f]? = some fn) :
    false = Tryd.pinned.checked.prog.looks [] ∧ ∀ (j : Nat) t, fn.params[j]? = some t → Tryd.pinned.checked.prog.wantsStandIn t = false := by
  obtain rfl : f = 9 := Option.some.inj ((show Tryd.prog.funcNamed "seedcorn/seedcornlaw09.MachineSame" = some 9 by kernel_rfl).symm.trans hf) |>.symm
  obtain rfl : fn = Tryd.f9 := (Option.some.inj (Tryd.func9.symm.trans hfn)).symm
  refine ⟨by kernel_rfl, fun j t ht => ?_⟩
  rw [Tryd.params9] at ht
  have hm := Array.mem_of_getElem? ht
  have hm' : t = 30 := by simpa using hm
  rcases hm' with rfl
  · exact (show Tryd.prog.wantsStandIn 30 = false by kernel_rfl)

/-- The card. -/
theorem card : Rows.MachineSameCardSaid :=
  Claim7.holds_tied_plain_at .later [] _ _ _ _ said (fun _ h => by cases h) (by kernel_rfl) (fun _ h => by cases h) machineSame_row_tie rfl ⟨rfl, rfl⟩ (by kernel_rfl) rfl plain (by kernel_rfl)
end Go.Proofs.YtgojpflkhnaedaaDoor.machineSame
