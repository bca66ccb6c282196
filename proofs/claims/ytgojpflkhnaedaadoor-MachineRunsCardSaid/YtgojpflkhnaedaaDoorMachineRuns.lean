/- The law MachineRuns, its tables laid: for every image, input and number. No condition. -/
import Derived.Deep.DeepCutAuto
import Derived.Test.YtgojpflkhnaedaaDoorMchQ
import Derived.Test.YtgojpflkhnaedaaDoorMchP
import Derived.Test.YtgojpflkhnaedaaDoorMchW
import Derived.Test.YtgojpflkhnaedaaDoorMchT
namespace Go.Proofs.YtgojpflkhnaedaaDoor.machineRuns
open Go.ChangeShapes Go.WideShapes Go.ChangeAt Go.RowKit
open Go.ChangeMaps (open_string shut_string)
set_option linter.unusedVariables false

set_option maxRecDepth 100000 in
set_option maxHeartbeats 8000000 in
theorem walk {B : Option Addr} {m k : Nat} {code : List Int} {d : Int} {inp : ByteArray} {v : Int} (w : World) (hM : m ≤ k ∧ k ≤ maxLen ∧ Rd w B m code ∧ W32s code) (hv : 0 ≤ v ∧ v < 256) (ht : Tabs w) :
    Calls Tryd.prog 5 #[.agg #[.slice B m k, .int .i64 d], .string inp, .int .u8 v] w fun e w' => e = .returned (.bool true) ∧ Below w.heap.size w w' := by
  have HK := Lib.hid ((Kx.nil none w).more (.cells #[.slice B m k, .int .i64 d] 24 (0, 0)))
  obtain ⟨W0, hW0⟩ : ∃ W, w.alloc (.cells #[.slice B m k, .int .i64 d] 24 (0, 0)) = W := ⟨_, rfl⟩
  rw [hW0] at HK
  have a0 : W0.cell? ⟨w.heap.size, 0, none⟩ = some (.slice B m k) := row_cell (HK.out.at 0 rfl) 0 rfl
  have a1 : W0.cell? ⟨w.heap.size, 1, none⟩ = some (.int .i64 d) := row_cell (HK.out.at 0 rfl) 1 rfl
  have HT := Lib.hid ht
  have HM := Lib.hid hM
  clear ht hM
  by_cases h0 : m ≤ 200
  · by_cases h1 : inp.size ≤ 200
    · by_cases h2 : d ≤ 200
      · have e0 : decide ((200 : Int) < (m : Int)) = false := decide_eq_false (by omega)
        have e1 : decide ((200 : Int) < (inp.size : Int)) = false := decide_eq_false (by omega)
        have e2 : decide ((200 : Int) < d) = false := decide_eq_false (by omega)
        obtain ⟨u, rfl⟩ : ∃ u : Nat, v = (u : Int) := ⟨v.toNat, by omega⟩
        obtain ⟨r, hr⟩ : ∃ r : Nat, (u : Int) % 41 = (r : Int) := ⟨u % 41, by omega⟩
        have hr40 : r ≤ 40 := by omega
        have hNz := zer_len d
        have ROK := Lib.hid (fun i => run9_ok (inp := inp) (d := d) (code := code) HM.out.2.2.1.bd i)
        have STC := Lib.hid (fun (W : World) (A : Option Addr) (c : Nat) (x : Mst) (hT : Tabs W) (hc : Rd W B m code) (hR : Rd W A (zer d).length x.mem) (hc2 : (zer d).length ≤ c ∧ c ≤ maxLen) (hg : Wg x.g) (hst : 0 ≤ x.st ∧ x.st ≤ 40) => step9 (c := c) (k := k) (d := d) inp x W hT hc (by omega) hR (by omega) hc2.1 hc2.2 hg (by omega) (by omega))
        have STR := Lib.hid (fun (W : World) (A : Option Addr) (c : Nat) (x : Mst) (hc : Rd W B m code) (hR : Rd W A (zer d).length x.mem) (hc2 : (zer d).length ≤ c ∧ c ≤ maxLen) (hg : Wg x.g) (hst : 0 ≤ x.st ∧ x.st ≤ 40) => step9_ref (c := c) (k := k) (d := d) inp x W hc (by omega) hR (by omega) hc2.1 hc2.2 hg (by omega) (by omega))
        have CQ : Hid (∀ (y : Mst) (W : World) (A1 A2 : Option Addr) (c1 c2 : Nat) (h1 : Rd W A1 (zer d).length y.mem) (h2 : Rd W A2 (zer d).length y.mem), Calls Tryd.prog 11 #[.agg (stc y.pc y.g (.slice A1 (zer d).length c1) y.rd y.out y.st y.en), .agg (stc y.pc y.g (.slice A2 (zer d).length c2) y.rd y.out y.st y.en)] W fun e w' => e = .returned (.bool true) ∧ Below W.heap.size W w') := Lib.hid (fun y W A1 A2 c1 c2 h1 h2 => by
          have h := same9_ref (c := c1) (e := c2) y y W h1 h2 (by omega) (by omega)
          rwa [decide_eq_true (eqv_self y)] at h)
        obtain ⟨N, hN⟩ : ∃ N, (zer d).length = N := ⟨_, rfl⟩
        have HN := Lib.hid hN
        rw [hN] at STC STR CQ hNz
        clear h0 h1 h2 hN hv
        go_enter Tryd.func5, Tryd.ntmps5
        go_upto_region 3 with fail
        clear a0 a1
        go_cut [7, 8] (fun s7 s8 wx => ∃ (q7 q8 : Nat) (A1 A2 : Option Addr) (c1 c2 : Nat), s7 = .pointer (some ⟨q7, 0, none⟩) ∧ s8 = .pointer (some ⟨q8, 0, none⟩) ∧ Hid (Rn w wx #[.slice B m k, .int .i64 d] q7 q8 N A1 A2 c1 c2 (mst0 d)))
        case first =>
          replace HK := Lib.hid HK.out.drew
          refine wp_region_held_drew (S := fun W => W.cell? ⟨w.heap.size, 0, none⟩ = some (.slice B m k) ∧ W.cell? ⟨w.heap.size, 1, none⟩ = some (.int .i64 d)) (by kernel_rfl) ?hsx1 (fun hH => ?restx1)
          case hsx1 => (try dsimp only); with_reducible exact all02 HK.out
          obtain ⟨w4, hw4⟩ : ∃ W, W0.drew = W := ⟨_, rfl⟩
          rw [hw4] at HK hH ⊢
          clear hw4
          refine wpAnyH_take (i := 0) (v := ?vx3) (by exact op_at rfl) (by kernel_rfl) (by kernel_rfl) (by kernel_rfl) (by exact fun _ _ _ h => h) (Or.inl ⟨by rfl, ?hyx3⟩) hH ?restx3
          case hyx3 => (intro w' hSw; (try dsimp only at hSw); go_simp <;> with_reducible rfl)
          (try simp only [Act.put, List.setIfInBounds_toArray, List.set_cons_zero, List.set_cons_succ])
          refine wpAnyH_take (i := 2) (v := ?vx4) (by exact op_at rfl) (by kernel_rfl) (by kernel_rfl) (by kernel_rfl) (by exact fun _ _ _ h => h) (Or.inl ⟨by rfl, ?hyx4⟩) hH ?restx4
          case hyx4 => (intro w' hSw; (try dsimp only at hSw); go_simp <;> with_reducible rfl)
          (try simp only [Act.put, List.setIfInBounds_toArray, List.set_cons_zero, List.set_cons_succ])
          refine wpAnyH_ready (rs := [1, 4, 5]) (by kernel_rfl) (by simp) ?_
          refine AllReadyH.cons (op_at rfl) (fun K hK => ?z5) ?z5c
          case z5 =>
            go_simp
            go_at_call 12
            (with_reducible refine (start9 _).mono ?_)
            rintro e wc1 ⟨A1, n1, c1, rfl, hr1, h1a, h1b, hf1, hbb⟩
            obtain rfl : N = n1 := HN.out.symm.trans hr1.1
            replace HK := Lib.hid (HK.out.after hbb)
            clear hbb hf1
            go_simp
            refine hK.out _ _ ?hsx6 (fun hN => ?restx6)
            case hsx6 => (try dsimp only); with_reducible exact all02 HK.out
            clear hK K hH
            have hH := hN
            clear hN
            (try simp only [Act.put, List.setIfInBounds_toArray, List.set_cons_zero, List.set_cons_succ])
            refine wpAnyH_ready (rs := [3, 4, 5]) (by kernel_rfl) (by simp) ?_
            refine AllReadyH.cons (op_at rfl) (fun K hK => ?z7) ?z7c
            case z7 =>
              go_simp
              go_at_call 13
              (with_reducible refine (start9_ref _).mono ?_)
              rintro e wc2 ⟨A2, n2, c2, rfl, hr2, h2a, h2b, hf2, hbb⟩
              obtain rfl : N = n2 := HN.out.symm.trans hr2.1
              replace hr1 := hr1.below hbb
              replace HK := Lib.hid (HK.out.after hbb)
              clear hbb hf2
              go_simp
              refine hK.out _ _ ?hsx8 (fun hN => ?restx8)
              case hsx8 => (try dsimp only); with_reducible exact all02 HK.out
              clear hK K hH
              have hH := hN
              clear hN
              (try simp only [Act.put, List.setIfInBounds_toArray, List.set_cons_zero, List.set_cons_succ])
              refine wpAnyH_ready (rs := [4, 5]) (by kernel_rfl) (by simp) ?_
              refine AllReadyH.cons (op_at rfl) (fun K hK => ?z9) ?z9c
              case z9 =>
                go_simp
                obtain ⟨q7, hq7⟩ : ∃ q, wc2.heap.size = q := ⟨_, rfl⟩
                have hge7 : w.heap.size ≤ q7 := by rw [← hq7]; exact HK.out.be.size
                replace HK := Lib.hid (HK.out.add q7 hq7 (.cells #[.int .i64 0, .int .u32 0, .int .u32 0, .int .u32 0, .int .u32 0, .int .u32 0, .int .u32 0, .int .u32 0, .int .u32 0, .int .u32 0, .int .u32 0, .int .u32 0, .int .u32 0, .int .u32 0, .int .u32 0, .int .u32 0, .int .u32 0, .slice none 0 0, .int .i64 0, .string ⟨#[]⟩, .int .i64 0, .int .i64 0] 30 (0, 0)))
                have ho17 := hr1.off (Nat.le_of_eq hq7)
                have ho27 := hr2.off (Nat.le_of_eq hq7)
                obtain ⟨wa7, hwa7⟩ : ∃ W, wc2.alloc (.cells #[.int .i64 0, .int .u32 0, .int .u32 0, .int .u32 0, .int .u32 0, .int .u32 0, .int .u32 0, .int .u32 0, .int .u32 0, .int .u32 0, .int .u32 0, .int .u32 0, .int .u32 0, .int .u32 0, .int .u32 0, .int .u32 0, .int .u32 0, .slice none 0 0, .int .i64 0, .string ⟨#[]⟩, .int .i64 0, .int .i64 0] 30 (0, 0)) = W := ⟨_, rfl⟩
                replace hr1 := hr1.below ((Below.refl _ _).alloc (Nat.le_refl _) (.cells #[.int .i64 0, .int .u32 0, .int .u32 0, .int .u32 0, .int .u32 0, .int .u32 0, .int .u32 0, .int .u32 0, .int .u32 0, .int .u32 0, .int .u32 0, .int .u32 0, .int .u32 0, .int .u32 0, .int .u32 0, .int .u32 0, .int .u32 0, .slice none 0 0, .int .i64 0, .string ⟨#[]⟩, .int .i64 0, .int .i64 0] 30 (0, 0)))
                replace hr2 := hr2.below ((Below.refl _ _).alloc (Nat.le_refl _) (.cells #[.int .i64 0, .int .u32 0, .int .u32 0, .int .u32 0, .int .u32 0, .int .u32 0, .int .u32 0, .int .u32 0, .int .u32 0, .int .u32 0, .int .u32 0, .int .u32 0, .int .u32 0, .int .u32 0, .int .u32 0, .int .u32 0, .int .u32 0, .slice none 0 0, .int .i64 0, .string ⟨#[]⟩, .int .i64 0, .int .i64 0] 30 (0, 0)))
                (try rw [hq7])
                rw [hwa7] at hr1 hr2 HK ⊢
                clear hwa7 hq7
                refine hK.out _ _ ?hsx10 (fun hN => ?restx10)
                case hsx10 => (try dsimp only); with_reducible exact all02 HK.out
                clear hK K hH
                have hH := hN
                clear hN
                (try simp only [Act.put, List.setIfInBounds_toArray, List.set_cons_zero, List.set_cons_succ])
                refine wpAnyH_ready (rs := [5]) (by kernel_rfl) (by simp) ?_
                refine AllReadyH.cons (op_at rfl) (fun K hK => ?z11) ?z11c
                case z11 =>
                  go_simp
                  obtain ⟨q8, hq8⟩ : ∃ q, wa7.heap.size = q := ⟨_, rfl⟩
                  have hge8 : w.heap.size ≤ q8 := by rw [← hq8]; exact HK.out.be.size
                  replace HK := Lib.hid (HK.out.add q8 hq8 (.cells #[.int .i64 0, .int .u32 0, .int .u32 0, .int .u32 0, .int .u32 0, .int .u32 0, .int .u32 0, .int .u32 0, .int .u32 0, .int .u32 0, .int .u32 0, .int .u32 0, .int .u32 0, .int .u32 0, .int .u32 0, .int .u32 0, .int .u32 0, .slice none 0 0, .int .i64 0, .string ⟨#[]⟩, .int .i64 0, .int .i64 0] 30 (0, 0)))
                  have ho18 := hr1.off (Nat.le_of_eq hq8)
                  have ho28 := hr2.off (Nat.le_of_eq hq8)
                  obtain ⟨wa8, hwa8⟩ : ∃ W, wa7.alloc (.cells #[.int .i64 0, .int .u32 0, .int .u32 0, .int .u32 0, .int .u32 0, .int .u32 0, .int .u32 0, .int .u32 0, .int .u32 0, .int .u32 0, .int .u32 0, .int .u32 0, .int .u32 0, .int .u32 0, .int .u32 0, .int .u32 0, .int .u32 0, .slice none 0 0, .int .i64 0, .string ⟨#[]⟩, .int .i64 0, .int .i64 0] 30 (0, 0)) = W := ⟨_, rfl⟩
                  replace hr1 := hr1.below ((Below.refl _ _).alloc (Nat.le_refl _) (.cells #[.int .i64 0, .int .u32 0, .int .u32 0, .int .u32 0, .int .u32 0, .int .u32 0, .int .u32 0, .int .u32 0, .int .u32 0, .int .u32 0, .int .u32 0, .int .u32 0, .int .u32 0, .int .u32 0, .int .u32 0, .int .u32 0, .int .u32 0, .slice none 0 0, .int .i64 0, .string ⟨#[]⟩, .int .i64 0, .int .i64 0] 30 (0, 0)))
                  replace hr2 := hr2.below ((Below.refl _ _).alloc (Nat.le_refl _) (.cells #[.int .i64 0, .int .u32 0, .int .u32 0, .int .u32 0, .int .u32 0, .int .u32 0, .int .u32 0, .int .u32 0, .int .u32 0, .int .u32 0, .int .u32 0, .int .u32 0, .int .u32 0, .int .u32 0, .int .u32 0, .int .u32 0, .int .u32 0, .slice none 0 0, .int .i64 0, .string ⟨#[]⟩, .int .i64 0, .int .i64 0] 30 (0, 0)))
                  (try rw [hq8])
                  rw [hwa8] at hr1 hr2 HK ⊢
                  clear hwa8 hq8
                  refine hK.out _ _ ?hsx12 (fun hN => ?restx12)
                  case hsx12 => (try dsimp only); with_reducible exact all02 HK.out
                  clear hK K hH
                  have hH := hN
                  clear hN
                  (try simp only [Act.put, List.setIfInBounds_toArray, List.set_cons_zero, List.set_cons_succ])
                  refine wpAnyH_ready (rs := [6]) (by kernel_rfl) (by simp) ?_
                  refine AllReadyH.cons (op_at rfl) (fun K hK => ?_) AllReadyH.nil
                  have S7 : Hid ((stc 0 (fun _ => 0) (.slice A1 N c1) 0 ⟨#[]⟩ 0 0).all (·.oneCell') = true) := Lib.hid (stc_one _ _ _ _ _ _ _ _ _)
                  refine step_store_row9 rfl 30 _ _ rfl q7 (stc 0 (fun _ => 0) (.slice A1 N c1) 0 ⟨#[]⟩ 0 0) (by rfl) (by rfl) 30 _ (HK.out.at 1 rfl) (infoS2 rfl) rfl S7.out ?_
                  replace HK := Lib.hid (HK.out.putRow 1 rfl (.inr hge7) (stc 0 (fun _ => 0) (.slice A1 N c1) 0 ⟨#[]⟩ 0 0))
                  replace hr1 := hr1.setRow0 ho17 (stc 0 (fun _ => 0) (.slice A1 N c1) 0 ⟨#[]⟩ 0 0)
                  replace hr2 := hr2.setRow0 ho27 (stc 0 (fun _ => 0) (.slice A1 N c1) 0 ⟨#[]⟩ 0 0)
                  refine hK.out _ _ ?hsx13 (fun hN => ?restx13)
                  case hsx13 => (try dsimp only); with_reducible exact all02 HK.out
                  clear hK K hH
                  have hH := hN
                  clear hN
                  simp only [Act.put]
                  refine wpAnyH_ready (rs := [7]) (by kernel_rfl) (by simp) ?_
                  refine AllReadyH.cons (op_at rfl) (fun K hK => ?_) AllReadyH.nil
                  have S8 : Hid ((stc 0 (fun _ => 0) (.slice A2 N c2) 0 ⟨#[]⟩ 0 0).all (·.oneCell') = true) := Lib.hid (stc_one _ _ _ _ _ _ _ _ _)
                  refine step_store_row9 rfl 30 _ _ rfl q8 (stc 0 (fun _ => 0) (.slice A2 N c2) 0 ⟨#[]⟩ 0 0) (by rfl) (by rfl) 30 _ (HK.out.at 2 rfl) (infoS2 rfl) rfl S8.out ?_
                  replace HK := Lib.hid (HK.out.putRow 2 rfl (.inr hge8) (stc 0 (fun _ => 0) (.slice A2 N c2) 0 ⟨#[]⟩ 0 0))
                  replace hr1 := hr1.setRow0 ho18 (stc 0 (fun _ => 0) (.slice A2 N c2) 0 ⟨#[]⟩ 0 0)
                  replace hr2 := hr2.setRow0 ho28 (stc 0 (fun _ => 0) (.slice A2 N c2) 0 ⟨#[]⟩ 0 0)
                  refine hK.out _ _ ?hsx14 (fun hN => ?restx14)
                  case hsx14 => (try dsimp only); with_reducible exact all02 HK.out
                  clear hK K hH
                  simp only [Act.put]
                  refine wpAnyH_done (by kernel_rfl) ?_ _
                  (go_wp2_with fail); go_meet; exact ⟨q7, q8, A1, A2, c1, c2, rfl, rfl, Lib.hid ⟨HK.out, hr1, hr2, ho17, ho18, ho27, ho28, ⟨h1a, h1b⟩, ⟨h2a, h2b⟩, hge7, hge8⟩⟩
                case z11c =>
                  exact AllReadyH.nil
              case z9c =>
                refine AllReadyH.cons (op_at rfl) (fun K hK => ?z16) ?z16c
                case z16 =>
                  go_simp
                  obtain ⟨q8, hq8⟩ : ∃ q, wc2.heap.size = q := ⟨_, rfl⟩
                  have hge8 : w.heap.size ≤ q8 := by rw [← hq8]; exact HK.out.be.size
                  replace HK := Lib.hid (HK.out.add q8 hq8 (.cells #[.int .i64 0, .int .u32 0, .int .u32 0, .int .u32 0, .int .u32 0, .int .u32 0, .int .u32 0, .int .u32 0, .int .u32 0, .int .u32 0, .int .u32 0, .int .u32 0, .int .u32 0, .int .u32 0, .int .u32 0, .int .u32 0, .int .u32 0, .slice none 0 0, .int .i64 0, .string ⟨#[]⟩, .int .i64 0, .int .i64 0] 30 (0, 0)))
                  have ho18 := hr1.off (Nat.le_of_eq hq8)
                  have ho28 := hr2.off (Nat.le_of_eq hq8)
                  obtain ⟨wa8, hwa8⟩ : ∃ W, wc2.alloc (.cells #[.int .i64 0, .int .u32 0, .int .u32 0, .int .u32 0, .int .u32 0, .int .u32 0, .int .u32 0, .int .u32 0, .int .u32 0, .int .u32 0, .int .u32 0, .int .u32 0, .int .u32 0, .int .u32 0, .int .u32 0, .int .u32 0, .int .u32 0, .slice none 0 0, .int .i64 0, .string ⟨#[]⟩, .int .i64 0, .int .i64 0] 30 (0, 0)) = W := ⟨_, rfl⟩
                  replace hr1 := hr1.below ((Below.refl _ _).alloc (Nat.le_refl _) (.cells #[.int .i64 0, .int .u32 0, .int .u32 0, .int .u32 0, .int .u32 0, .int .u32 0, .int .u32 0, .int .u32 0, .int .u32 0, .int .u32 0, .int .u32 0, .int .u32 0, .int .u32 0, .int .u32 0, .int .u32 0, .int .u32 0, .int .u32 0, .slice none 0 0, .int .i64 0, .string ⟨#[]⟩, .int .i64 0, .int .i64 0] 30 (0, 0)))
                  replace hr2 := hr2.below ((Below.refl _ _).alloc (Nat.le_refl _) (.cells #[.int .i64 0, .int .u32 0, .int .u32 0, .int .u32 0, .int .u32 0, .int .u32 0, .int .u32 0, .int .u32 0, .int .u32 0, .int .u32 0, .int .u32 0, .int .u32 0, .int .u32 0, .int .u32 0, .int .u32 0, .int .u32 0, .int .u32 0, .slice none 0 0, .int .i64 0, .string ⟨#[]⟩, .int .i64 0, .int .i64 0] 30 (0, 0)))
                  (try rw [hq8])
                  rw [hwa8] at hr1 hr2 HK ⊢
                  clear hwa8 hq8
                  refine hK.out _ _ ?hsx17 (fun hN => ?restx17)
                  case hsx17 => (try dsimp only); with_reducible exact all02 HK.out
                  clear hK K hH
                  have hH := hN
                  clear hN
                  (try simp only [Act.put, List.setIfInBounds_toArray, List.set_cons_zero, List.set_cons_succ])
                  refine wpAnyH_ready (rs := [4]) (by kernel_rfl) (by simp) ?_
                  refine AllReadyH.cons (op_at rfl) (fun K hK => ?z18) ?z18c
                  case z18 =>
                    go_simp
                    obtain ⟨q7, hq7⟩ : ∃ q, wa8.heap.size = q := ⟨_, rfl⟩
                    have hge7 : w.heap.size ≤ q7 := by rw [← hq7]; exact HK.out.be.size
                    replace HK := Lib.hid (HK.out.add q7 hq7 (.cells #[.int .i64 0, .int .u32 0, .int .u32 0, .int .u32 0, .int .u32 0, .int .u32 0, .int .u32 0, .int .u32 0, .int .u32 0, .int .u32 0, .int .u32 0, .int .u32 0, .int .u32 0, .int .u32 0, .int .u32 0, .int .u32 0, .int .u32 0, .slice none 0 0, .int .i64 0, .string ⟨#[]⟩, .int .i64 0, .int .i64 0] 30 (0, 0)))
                    have ho17 := hr1.off (Nat.le_of_eq hq7)
                    have ho27 := hr2.off (Nat.le_of_eq hq7)
                    obtain ⟨wa7, hwa7⟩ : ∃ W, wa8.alloc (.cells #[.int .i64 0, .int .u32 0, .int .u32 0, .int .u32 0, .int .u32 0, .int .u32 0, .int .u32 0, .int .u32 0, .int .u32 0, .int .u32 0, .int .u32 0, .int .u32 0, .int .u32 0, .int .u32 0, .int .u32 0, .int .u32 0, .int .u32 0, .slice none 0 0, .int .i64 0, .string ⟨#[]⟩, .int .i64 0, .int .i64 0] 30 (0, 0)) = W := ⟨_, rfl⟩
                    replace hr1 := hr1.below ((Below.refl _ _).alloc (Nat.le_refl _) (.cells #[.int .i64 0, .int .u32 0, .int .u32 0, .int .u32 0, .int .u32 0, .int .u32 0, .int .u32 0, .int .u32 0, .int .u32 0, .int .u32 0, .int .u32 0, .int .u32 0, .int .u32 0, .int .u32 0, .int .u32 0, .int .u32 0, .int .u32 0, .slice none 0 0, .int .i64 0, .string ⟨#[]⟩, .int .i64 0, .int .i64 0] 30 (0, 0)))
                    replace hr2 := hr2.below ((Below.refl _ _).alloc (Nat.le_refl _) (.cells #[.int .i64 0, .int .u32 0, .int .u32 0, .int .u32 0, .int .u32 0, .int .u32 0, .int .u32 0, .int .u32 0, .int .u32 0, .int .u32 0, .int .u32 0, .int .u32 0, .int .u32 0, .int .u32 0, .int .u32 0, .int .u32 0, .int .u32 0, .slice none 0 0, .int .i64 0, .string ⟨#[]⟩, .int .i64 0, .int .i64 0] 30 (0, 0)))
                    (try rw [hq7])
                    rw [hwa7] at hr1 hr2 HK ⊢
                    clear hwa7 hq7
                    refine hK.out _ _ ?hsx19 (fun hN => ?restx19)
                    case hsx19 => (try dsimp only); with_reducible exact all02 HK.out
                    clear hK K hH
                    have hH := hN
                    clear hN
                    (try simp only [Act.put, List.setIfInBounds_toArray, List.set_cons_zero, List.set_cons_succ])
                    refine wpAnyH_ready (rs := [6]) (by kernel_rfl) (by simp) ?_
                    refine AllReadyH.cons (op_at rfl) (fun K hK => ?_) AllReadyH.nil
                    have S7 : Hid ((stc 0 (fun _ => 0) (.slice A1 N c1) 0 ⟨#[]⟩ 0 0).all (·.oneCell') = true) := Lib.hid (stc_one _ _ _ _ _ _ _ _ _)
                    refine step_store_row9 rfl 30 _ _ rfl q7 (stc 0 (fun _ => 0) (.slice A1 N c1) 0 ⟨#[]⟩ 0 0) (by rfl) (by rfl) 30 _ (HK.out.at 2 rfl) (infoS2 rfl) rfl S7.out ?_
                    replace HK := Lib.hid (HK.out.putRow 2 rfl (.inr hge7) (stc 0 (fun _ => 0) (.slice A1 N c1) 0 ⟨#[]⟩ 0 0))
                    replace hr1 := hr1.setRow0 ho17 (stc 0 (fun _ => 0) (.slice A1 N c1) 0 ⟨#[]⟩ 0 0)
                    replace hr2 := hr2.setRow0 ho27 (stc 0 (fun _ => 0) (.slice A1 N c1) 0 ⟨#[]⟩ 0 0)
                    refine hK.out _ _ ?hsx20 (fun hN => ?restx20)
                    case hsx20 => (try dsimp only); with_reducible exact all02 HK.out
                    clear hK K hH
                    have hH := hN
                    clear hN
                    simp only [Act.put]
                    refine wpAnyH_ready (rs := [7]) (by kernel_rfl) (by simp) ?_
                    refine AllReadyH.cons (op_at rfl) (fun K hK => ?_) AllReadyH.nil
                    have S8 : Hid ((stc 0 (fun _ => 0) (.slice A2 N c2) 0 ⟨#[]⟩ 0 0).all (·.oneCell') = true) := Lib.hid (stc_one _ _ _ _ _ _ _ _ _)
                    refine step_store_row9 rfl 30 _ _ rfl q8 (stc 0 (fun _ => 0) (.slice A2 N c2) 0 ⟨#[]⟩ 0 0) (by rfl) (by rfl) 30 _ (HK.out.at 1 rfl) (infoS2 rfl) rfl S8.out ?_
                    replace HK := Lib.hid (HK.out.putRow 1 rfl (.inr hge8) (stc 0 (fun _ => 0) (.slice A2 N c2) 0 ⟨#[]⟩ 0 0))
                    replace hr1 := hr1.setRow0 ho18 (stc 0 (fun _ => 0) (.slice A2 N c2) 0 ⟨#[]⟩ 0 0)
                    replace hr2 := hr2.setRow0 ho28 (stc 0 (fun _ => 0) (.slice A2 N c2) 0 ⟨#[]⟩ 0 0)
                    refine hK.out _ _ ?hsx21 (fun hN => ?restx21)
                    case hsx21 => (try dsimp only); with_reducible exact all02 HK.out
                    clear hK K hH
                    simp only [Act.put]
                    refine wpAnyH_done (by kernel_rfl) ?_ _
                    (go_wp2_with fail); go_meet; exact ⟨q7, q8, A1, A2, c1, c2, rfl, rfl, Lib.hid ⟨(HK.out.perm (List.Perm.cons _ (List.Perm.swap _ _ _))), hr1, hr2, ho17, ho18, ho27, ho28, ⟨h1a, h1b⟩, ⟨h2a, h2b⟩, hge7, hge8⟩⟩
                  case z18c =>
                    exact AllReadyH.nil
                case z16c =>
                  exact AllReadyH.nil
            case z7c =>
              refine AllReadyH.cons (op_at rfl) (fun K hK => ?z23) ?z23c
              case z23 =>
                go_simp
                obtain ⟨q7, hq7⟩ : ∃ q, wc1.heap.size = q := ⟨_, rfl⟩
                have hge7 : w.heap.size ≤ q7 := by rw [← hq7]; exact HK.out.be.size
                replace HK := Lib.hid (HK.out.add q7 hq7 (.cells #[.int .i64 0, .int .u32 0, .int .u32 0, .int .u32 0, .int .u32 0, .int .u32 0, .int .u32 0, .int .u32 0, .int .u32 0, .int .u32 0, .int .u32 0, .int .u32 0, .int .u32 0, .int .u32 0, .int .u32 0, .int .u32 0, .int .u32 0, .slice none 0 0, .int .i64 0, .string ⟨#[]⟩, .int .i64 0, .int .i64 0] 30 (0, 0)))
                have ho17 := hr1.off (Nat.le_of_eq hq7)
                obtain ⟨wa7, hwa7⟩ : ∃ W, wc1.alloc (.cells #[.int .i64 0, .int .u32 0, .int .u32 0, .int .u32 0, .int .u32 0, .int .u32 0, .int .u32 0, .int .u32 0, .int .u32 0, .int .u32 0, .int .u32 0, .int .u32 0, .int .u32 0, .int .u32 0, .int .u32 0, .int .u32 0, .int .u32 0, .slice none 0 0, .int .i64 0, .string ⟨#[]⟩, .int .i64 0, .int .i64 0] 30 (0, 0)) = W := ⟨_, rfl⟩
                replace hr1 := hr1.below ((Below.refl _ _).alloc (Nat.le_refl _) (.cells #[.int .i64 0, .int .u32 0, .int .u32 0, .int .u32 0, .int .u32 0, .int .u32 0, .int .u32 0, .int .u32 0, .int .u32 0, .int .u32 0, .int .u32 0, .int .u32 0, .int .u32 0, .int .u32 0, .int .u32 0, .int .u32 0, .int .u32 0, .slice none 0 0, .int .i64 0, .string ⟨#[]⟩, .int .i64 0, .int .i64 0] 30 (0, 0)))
                (try rw [hq7])
                rw [hwa7] at hr1 HK ⊢
                clear hwa7 hq7
                refine hK.out _ _ ?hsx24 (fun hN => ?restx24)
                case hsx24 => (try dsimp only); with_reducible exact all02 HK.out
                clear hK K hH
                have hH := hN
                clear hN
                (try simp only [Act.put, List.setIfInBounds_toArray, List.set_cons_zero, List.set_cons_succ])
                refine wpAnyH_ready (rs := [3, 5]) (by kernel_rfl) (by simp) ?_
                refine AllReadyH.cons (op_at rfl) (fun K hK => ?z25) ?z25c
                case z25 =>
                  go_simp
                  go_at_call 13
                  (with_reducible refine (start9_ref _).mono ?_)
                  rintro e wc2 ⟨A2, n2, c2, rfl, hr2, h2a, h2b, hf2, hbb⟩
                  obtain rfl : N = n2 := HN.out.symm.trans hr2.1
                  have ho27 : N = 0 ∨ Off A2 q7 := .inr (hf2.off (off_none q7) (HK.out.lt 1 rfl))
                  replace hr1 := hr1.below hbb
                  replace HK := Lib.hid (HK.out.after hbb)
                  clear hbb hf2
                  go_simp
                  refine hK.out _ _ ?hsx26 (fun hN => ?restx26)
                  case hsx26 => (try dsimp only); with_reducible exact all02 HK.out
                  clear hK K hH
                  have hH := hN
                  clear hN
                  (try simp only [Act.put, List.setIfInBounds_toArray, List.set_cons_zero, List.set_cons_succ])
                  refine wpAnyH_ready (rs := [5]) (by kernel_rfl) (by simp) ?_
                  refine AllReadyH.cons (op_at rfl) (fun K hK => ?z27) ?z27c
                  case z27 =>
                    go_simp
                    obtain ⟨q8, hq8⟩ : ∃ q, wc2.heap.size = q := ⟨_, rfl⟩
                    have hge8 : w.heap.size ≤ q8 := by rw [← hq8]; exact HK.out.be.size
                    replace HK := Lib.hid (HK.out.add q8 hq8 (.cells #[.int .i64 0, .int .u32 0, .int .u32 0, .int .u32 0, .int .u32 0, .int .u32 0, .int .u32 0, .int .u32 0, .int .u32 0, .int .u32 0, .int .u32 0, .int .u32 0, .int .u32 0, .int .u32 0, .int .u32 0, .int .u32 0, .int .u32 0, .slice none 0 0, .int .i64 0, .string ⟨#[]⟩, .int .i64 0, .int .i64 0] 30 (0, 0)))
                    have ho18 := hr1.off (Nat.le_of_eq hq8)
                    have ho28 := hr2.off (Nat.le_of_eq hq8)
                    obtain ⟨wa8, hwa8⟩ : ∃ W, wc2.alloc (.cells #[.int .i64 0, .int .u32 0, .int .u32 0, .int .u32 0, .int .u32 0, .int .u32 0, .int .u32 0, .int .u32 0, .int .u32 0, .int .u32 0, .int .u32 0, .int .u32 0, .int .u32 0, .int .u32 0, .int .u32 0, .int .u32 0, .int .u32 0, .slice none 0 0, .int .i64 0, .string ⟨#[]⟩, .int .i64 0, .int .i64 0] 30 (0, 0)) = W := ⟨_, rfl⟩
                    replace hr1 := hr1.below ((Below.refl _ _).alloc (Nat.le_refl _) (.cells #[.int .i64 0, .int .u32 0, .int .u32 0, .int .u32 0, .int .u32 0, .int .u32 0, .int .u32 0, .int .u32 0, .int .u32 0, .int .u32 0, .int .u32 0, .int .u32 0, .int .u32 0, .int .u32 0, .int .u32 0, .int .u32 0, .int .u32 0, .slice none 0 0, .int .i64 0, .string ⟨#[]⟩, .int .i64 0, .int .i64 0] 30 (0, 0)))
                    replace hr2 := hr2.below ((Below.refl _ _).alloc (Nat.le_refl _) (.cells #[.int .i64 0, .int .u32 0, .int .u32 0, .int .u32 0, .int .u32 0, .int .u32 0, .int .u32 0, .int .u32 0, .int .u32 0, .int .u32 0, .int .u32 0, .int .u32 0, .int .u32 0, .int .u32 0, .int .u32 0, .int .u32 0, .int .u32 0, .slice none 0 0, .int .i64 0, .string ⟨#[]⟩, .int .i64 0, .int .i64 0] 30 (0, 0)))
                    (try rw [hq8])
                    rw [hwa8] at hr1 hr2 HK ⊢
                    clear hwa8 hq8
                    refine hK.out _ _ ?hsx28 (fun hN => ?restx28)
                    case hsx28 => (try dsimp only); with_reducible exact all02 HK.out
                    clear hK K hH
                    have hH := hN
                    clear hN
                    (try simp only [Act.put, List.setIfInBounds_toArray, List.set_cons_zero, List.set_cons_succ])
                    refine wpAnyH_ready (rs := [6]) (by kernel_rfl) (by simp) ?_
                    refine AllReadyH.cons (op_at rfl) (fun K hK => ?_) AllReadyH.nil
                    have S7 : Hid ((stc 0 (fun _ => 0) (.slice A1 N c1) 0 ⟨#[]⟩ 0 0).all (·.oneCell') = true) := Lib.hid (stc_one _ _ _ _ _ _ _ _ _)
                    refine step_store_row9 rfl 30 _ _ rfl q7 (stc 0 (fun _ => 0) (.slice A1 N c1) 0 ⟨#[]⟩ 0 0) (by rfl) (by rfl) 30 _ (HK.out.at 1 rfl) (infoS2 rfl) rfl S7.out ?_
                    replace HK := Lib.hid (HK.out.putRow 1 rfl (.inr hge7) (stc 0 (fun _ => 0) (.slice A1 N c1) 0 ⟨#[]⟩ 0 0))
                    replace hr1 := hr1.setRow0 ho17 (stc 0 (fun _ => 0) (.slice A1 N c1) 0 ⟨#[]⟩ 0 0)
                    replace hr2 := hr2.setRow0 ho27 (stc 0 (fun _ => 0) (.slice A1 N c1) 0 ⟨#[]⟩ 0 0)
                    refine hK.out _ _ ?hsx29 (fun hN => ?restx29)
                    case hsx29 => (try dsimp only); with_reducible exact all02 HK.out
                    clear hK K hH
                    have hH := hN
                    clear hN
                    simp only [Act.put]
                    refine wpAnyH_ready (rs := [7]) (by kernel_rfl) (by simp) ?_
                    refine AllReadyH.cons (op_at rfl) (fun K hK => ?_) AllReadyH.nil
                    have S8 : Hid ((stc 0 (fun _ => 0) (.slice A2 N c2) 0 ⟨#[]⟩ 0 0).all (·.oneCell') = true) := Lib.hid (stc_one _ _ _ _ _ _ _ _ _)
                    refine step_store_row9 rfl 30 _ _ rfl q8 (stc 0 (fun _ => 0) (.slice A2 N c2) 0 ⟨#[]⟩ 0 0) (by rfl) (by rfl) 30 _ (HK.out.at 2 rfl) (infoS2 rfl) rfl S8.out ?_
                    replace HK := Lib.hid (HK.out.putRow 2 rfl (.inr hge8) (stc 0 (fun _ => 0) (.slice A2 N c2) 0 ⟨#[]⟩ 0 0))
                    replace hr1 := hr1.setRow0 ho18 (stc 0 (fun _ => 0) (.slice A2 N c2) 0 ⟨#[]⟩ 0 0)
                    replace hr2 := hr2.setRow0 ho28 (stc 0 (fun _ => 0) (.slice A2 N c2) 0 ⟨#[]⟩ 0 0)
                    refine hK.out _ _ ?hsx30 (fun hN => ?restx30)
                    case hsx30 => (try dsimp only); with_reducible exact all02 HK.out
                    clear hK K hH
                    simp only [Act.put]
                    refine wpAnyH_done (by kernel_rfl) ?_ _
                    (go_wp2_with fail); go_meet; exact ⟨q7, q8, A1, A2, c1, c2, rfl, rfl, Lib.hid ⟨HK.out, hr1, hr2, ho17, ho18, ho27, ho28, ⟨h1a, h1b⟩, ⟨h2a, h2b⟩, hge7, hge8⟩⟩
                  case z27c =>
                    exact AllReadyH.nil
                case z25c =>
                  refine AllReadyH.cons (op_at rfl) (fun K hK => ?z32) ?z32c
                  case z32 =>
                    go_simp
                    obtain ⟨q8, hq8⟩ : ∃ q, wa7.heap.size = q := ⟨_, rfl⟩
                    have hge8 : w.heap.size ≤ q8 := by rw [← hq8]; exact HK.out.be.size
                    replace HK := Lib.hid (HK.out.add q8 hq8 (.cells #[.int .i64 0, .int .u32 0, .int .u32 0, .int .u32 0, .int .u32 0, .int .u32 0, .int .u32 0, .int .u32 0, .int .u32 0, .int .u32 0, .int .u32 0, .int .u32 0, .int .u32 0, .int .u32 0, .int .u32 0, .int .u32 0, .int .u32 0, .slice none 0 0, .int .i64 0, .string ⟨#[]⟩, .int .i64 0, .int .i64 0] 30 (0, 0)))
                    have ho18 := hr1.off (Nat.le_of_eq hq8)
                    obtain ⟨wa8, hwa8⟩ : ∃ W, wa7.alloc (.cells #[.int .i64 0, .int .u32 0, .int .u32 0, .int .u32 0, .int .u32 0, .int .u32 0, .int .u32 0, .int .u32 0, .int .u32 0, .int .u32 0, .int .u32 0, .int .u32 0, .int .u32 0, .int .u32 0, .int .u32 0, .int .u32 0, .int .u32 0, .slice none 0 0, .int .i64 0, .string ⟨#[]⟩, .int .i64 0, .int .i64 0] 30 (0, 0)) = W := ⟨_, rfl⟩
                    replace hr1 := hr1.below ((Below.refl _ _).alloc (Nat.le_refl _) (.cells #[.int .i64 0, .int .u32 0, .int .u32 0, .int .u32 0, .int .u32 0, .int .u32 0, .int .u32 0, .int .u32 0, .int .u32 0, .int .u32 0, .int .u32 0, .int .u32 0, .int .u32 0, .int .u32 0, .int .u32 0, .int .u32 0, .int .u32 0, .slice none 0 0, .int .i64 0, .string ⟨#[]⟩, .int .i64 0, .int .i64 0] 30 (0, 0)))
                    (try rw [hq8])
                    rw [hwa8] at hr1 HK ⊢
                    clear hwa8 hq8
                    refine hK.out _ _ ?hsx33 (fun hN => ?restx33)
                    case hsx33 => (try dsimp only); with_reducible exact all02 HK.out
                    clear hK K hH
                    have hH := hN
                    clear hN
                    (try simp only [Act.put, List.setIfInBounds_toArray, List.set_cons_zero, List.set_cons_succ])
                    refine wpAnyH_ready (rs := [3]) (by kernel_rfl) (by simp) ?_
                    refine AllReadyH.cons (op_at rfl) (fun K hK => ?z34) ?z34c
                    case z34 =>
                      go_simp
                      go_at_call 13
                      (with_reducible refine (start9_ref _).mono ?_)
                      rintro e wc2 ⟨A2, n2, c2, rfl, hr2, h2a, h2b, hf2, hbb⟩
                      obtain rfl : N = n2 := HN.out.symm.trans hr2.1
                      have ho27 : N = 0 ∨ Off A2 q7 := .inr (hf2.off (off_none q7) (HK.out.lt 1 rfl))
                      have ho28 : N = 0 ∨ Off A2 q8 := .inr (hf2.off (off_none q8) (HK.out.lt 2 rfl))
                      replace hr1 := hr1.below hbb
                      replace HK := Lib.hid (HK.out.after hbb)
                      clear hbb hf2
                      go_simp
                      refine hK.out _ _ ?hsx35 (fun hN => ?restx35)
                      case hsx35 => (try dsimp only); with_reducible exact all02 HK.out
                      clear hK K hH
                      have hH := hN
                      clear hN
                      (try simp only [Act.put, List.setIfInBounds_toArray, List.set_cons_zero, List.set_cons_succ])
                      refine wpAnyH_ready (rs := [6]) (by kernel_rfl) (by simp) ?_
                      refine AllReadyH.cons (op_at rfl) (fun K hK => ?_) AllReadyH.nil
                      have S7 : Hid ((stc 0 (fun _ => 0) (.slice A1 N c1) 0 ⟨#[]⟩ 0 0).all (·.oneCell') = true) := Lib.hid (stc_one _ _ _ _ _ _ _ _ _)
                      refine step_store_row9 rfl 30 _ _ rfl q7 (stc 0 (fun _ => 0) (.slice A1 N c1) 0 ⟨#[]⟩ 0 0) (by rfl) (by rfl) 30 _ (HK.out.at 1 rfl) (infoS2 rfl) rfl S7.out ?_
                      replace HK := Lib.hid (HK.out.putRow 1 rfl (.inr hge7) (stc 0 (fun _ => 0) (.slice A1 N c1) 0 ⟨#[]⟩ 0 0))
                      replace hr1 := hr1.setRow0 ho17 (stc 0 (fun _ => 0) (.slice A1 N c1) 0 ⟨#[]⟩ 0 0)
                      replace hr2 := hr2.setRow0 ho27 (stc 0 (fun _ => 0) (.slice A1 N c1) 0 ⟨#[]⟩ 0 0)
                      refine hK.out _ _ ?hsx36 (fun hN => ?restx36)
                      case hsx36 => (try dsimp only); with_reducible exact all02 HK.out
                      clear hK K hH
                      have hH := hN
                      clear hN
                      simp only [Act.put]
                      refine wpAnyH_ready (rs := [7]) (by kernel_rfl) (by simp) ?_
                      refine AllReadyH.cons (op_at rfl) (fun K hK => ?_) AllReadyH.nil
                      have S8 : Hid ((stc 0 (fun _ => 0) (.slice A2 N c2) 0 ⟨#[]⟩ 0 0).all (·.oneCell') = true) := Lib.hid (stc_one _ _ _ _ _ _ _ _ _)
                      refine step_store_row9 rfl 30 _ _ rfl q8 (stc 0 (fun _ => 0) (.slice A2 N c2) 0 ⟨#[]⟩ 0 0) (by rfl) (by rfl) 30 _ (HK.out.at 2 rfl) (infoS2 rfl) rfl S8.out ?_
                      replace HK := Lib.hid (HK.out.putRow 2 rfl (.inr hge8) (stc 0 (fun _ => 0) (.slice A2 N c2) 0 ⟨#[]⟩ 0 0))
                      replace hr1 := hr1.setRow0 ho18 (stc 0 (fun _ => 0) (.slice A2 N c2) 0 ⟨#[]⟩ 0 0)
                      replace hr2 := hr2.setRow0 ho28 (stc 0 (fun _ => 0) (.slice A2 N c2) 0 ⟨#[]⟩ 0 0)
                      refine hK.out _ _ ?hsx37 (fun hN => ?restx37)
                      case hsx37 => (try dsimp only); with_reducible exact all02 HK.out
                      clear hK K hH
                      simp only [Act.put]
                      refine wpAnyH_done (by kernel_rfl) ?_ _
                      (go_wp2_with fail); go_meet; exact ⟨q7, q8, A1, A2, c1, c2, rfl, rfl, Lib.hid ⟨HK.out, hr1, hr2, ho17, ho18, ho27, ho28, ⟨h1a, h1b⟩, ⟨h2a, h2b⟩, hge7, hge8⟩⟩
                    case z34c =>
                      exact AllReadyH.nil
                  case z32c =>
                    exact AllReadyH.nil
              case z23c =>
                refine AllReadyH.cons (op_at rfl) (fun K hK => ?z39) ?z39c
                case z39 =>
                  go_simp
                  obtain ⟨q8, hq8⟩ : ∃ q, wc1.heap.size = q := ⟨_, rfl⟩
                  have hge8 : w.heap.size ≤ q8 := by rw [← hq8]; exact HK.out.be.size
                  replace HK := Lib.hid (HK.out.add q8 hq8 (.cells #[.int .i64 0, .int .u32 0, .int .u32 0, .int .u32 0, .int .u32 0, .int .u32 0, .int .u32 0, .int .u32 0, .int .u32 0, .int .u32 0, .int .u32 0, .int .u32 0, .int .u32 0, .int .u32 0, .int .u32 0, .int .u32 0, .int .u32 0, .slice none 0 0, .int .i64 0, .string ⟨#[]⟩, .int .i64 0, .int .i64 0] 30 (0, 0)))
                  have ho18 := hr1.off (Nat.le_of_eq hq8)
                  obtain ⟨wa8, hwa8⟩ : ∃ W, wc1.alloc (.cells #[.int .i64 0, .int .u32 0, .int .u32 0, .int .u32 0, .int .u32 0, .int .u32 0, .int .u32 0, .int .u32 0, .int .u32 0, .int .u32 0, .int .u32 0, .int .u32 0, .int .u32 0, .int .u32 0, .int .u32 0, .int .u32 0, .int .u32 0, .slice none 0 0, .int .i64 0, .string ⟨#[]⟩, .int .i64 0, .int .i64 0] 30 (0, 0)) = W := ⟨_, rfl⟩
                  replace hr1 := hr1.below ((Below.refl _ _).alloc (Nat.le_refl _) (.cells #[.int .i64 0, .int .u32 0, .int .u32 0, .int .u32 0, .int .u32 0, .int .u32 0, .int .u32 0, .int .u32 0, .int .u32 0, .int .u32 0, .int .u32 0, .int .u32 0, .int .u32 0, .int .u32 0, .int .u32 0, .int .u32 0, .int .u32 0, .slice none 0 0, .int .i64 0, .string ⟨#[]⟩, .int .i64 0, .int .i64 0] 30 (0, 0)))
                  (try rw [hq8])
                  rw [hwa8] at hr1 HK ⊢
                  clear hwa8 hq8
                  refine hK.out _ _ ?hsx40 (fun hN => ?restx40)
                  case hsx40 => (try dsimp only); with_reducible exact all02 HK.out
                  clear hK K hH
                  have hH := hN
                  clear hN
                  (try simp only [Act.put, List.setIfInBounds_toArray, List.set_cons_zero, List.set_cons_succ])
                  refine wpAnyH_ready (rs := [3, 4]) (by kernel_rfl) (by simp) ?_
                  refine AllReadyH.cons (op_at rfl) (fun K hK => ?z41) ?z41c
                  case z41 =>
                    go_simp
                    go_at_call 13
                    (with_reducible refine (start9_ref _).mono ?_)
                    rintro e wc2 ⟨A2, n2, c2, rfl, hr2, h2a, h2b, hf2, hbb⟩
                    obtain rfl : N = n2 := HN.out.symm.trans hr2.1
                    have ho28 : N = 0 ∨ Off A2 q8 := .inr (hf2.off (off_none q8) (HK.out.lt 1 rfl))
                    replace hr1 := hr1.below hbb
                    replace HK := Lib.hid (HK.out.after hbb)
                    clear hbb hf2
                    go_simp
                    refine hK.out _ _ ?hsx42 (fun hN => ?restx42)
                    case hsx42 => (try dsimp only); with_reducible exact all02 HK.out
                    clear hK K hH
                    have hH := hN
                    clear hN
                    (try simp only [Act.put, List.setIfInBounds_toArray, List.set_cons_zero, List.set_cons_succ])
                    refine wpAnyH_ready (rs := [4]) (by kernel_rfl) (by simp) ?_
                    refine AllReadyH.cons (op_at rfl) (fun K hK => ?z43) ?z43c
                    case z43 =>
                      go_simp
                      obtain ⟨q7, hq7⟩ : ∃ q, wc2.heap.size = q := ⟨_, rfl⟩
                      have hge7 : w.heap.size ≤ q7 := by rw [← hq7]; exact HK.out.be.size
                      replace HK := Lib.hid (HK.out.add q7 hq7 (.cells #[.int .i64 0, .int .u32 0, .int .u32 0, .int .u32 0, .int .u32 0, .int .u32 0, .int .u32 0, .int .u32 0, .int .u32 0, .int .u32 0, .int .u32 0, .int .u32 0, .int .u32 0, .int .u32 0, .int .u32 0, .int .u32 0, .int .u32 0, .slice none 0 0, .int .i64 0, .string ⟨#[]⟩, .int .i64 0, .int .i64 0] 30 (0, 0)))
                      have ho17 := hr1.off (Nat.le_of_eq hq7)
                      have ho27 := hr2.off (Nat.le_of_eq hq7)
                      obtain ⟨wa7, hwa7⟩ : ∃ W, wc2.alloc (.cells #[.int .i64 0, .int .u32 0, .int .u32 0, .int .u32 0, .int .u32 0, .int .u32 0, .int .u32 0, .int .u32 0, .int .u32 0, .int .u32 0, .int .u32 0, .int .u32 0, .int .u32 0, .int .u32 0, .int .u32 0, .int .u32 0, .int .u32 0, .slice none 0 0, .int .i64 0, .string ⟨#[]⟩, .int .i64 0, .int .i64 0] 30 (0, 0)) = W := ⟨_, rfl⟩
                      replace hr1 := hr1.below ((Below.refl _ _).alloc (Nat.le_refl _) (.cells #[.int .i64 0, .int .u32 0, .int .u32 0, .int .u32 0, .int .u32 0, .int .u32 0, .int .u32 0, .int .u32 0, .int .u32 0, .int .u32 0, .int .u32 0, .int .u32 0, .int .u32 0, .int .u32 0, .int .u32 0, .int .u32 0, .int .u32 0, .slice none 0 0, .int .i64 0, .string ⟨#[]⟩, .int .i64 0, .int .i64 0] 30 (0, 0)))
                      replace hr2 := hr2.below ((Below.refl _ _).alloc (Nat.le_refl _) (.cells #[.int .i64 0, .int .u32 0, .int .u32 0, .int .u32 0, .int .u32 0, .int .u32 0, .int .u32 0, .int .u32 0, .int .u32 0, .int .u32 0, .int .u32 0, .int .u32 0, .int .u32 0, .int .u32 0, .int .u32 0, .int .u32 0, .int .u32 0, .slice none 0 0, .int .i64 0, .string ⟨#[]⟩, .int .i64 0, .int .i64 0] 30 (0, 0)))
                      (try rw [hq7])
                      rw [hwa7] at hr1 hr2 HK ⊢
                      clear hwa7 hq7
                      refine hK.out _ _ ?hsx44 (fun hN => ?restx44)
                      case hsx44 => (try dsimp only); with_reducible exact all02 HK.out
                      clear hK K hH
                      have hH := hN
                      clear hN
                      (try simp only [Act.put, List.setIfInBounds_toArray, List.set_cons_zero, List.set_cons_succ])
                      refine wpAnyH_ready (rs := [6]) (by kernel_rfl) (by simp) ?_
                      refine AllReadyH.cons (op_at rfl) (fun K hK => ?_) AllReadyH.nil
                      have S7 : Hid ((stc 0 (fun _ => 0) (.slice A1 N c1) 0 ⟨#[]⟩ 0 0).all (·.oneCell') = true) := Lib.hid (stc_one _ _ _ _ _ _ _ _ _)
                      refine step_store_row9 rfl 30 _ _ rfl q7 (stc 0 (fun _ => 0) (.slice A1 N c1) 0 ⟨#[]⟩ 0 0) (by rfl) (by rfl) 30 _ (HK.out.at 2 rfl) (infoS2 rfl) rfl S7.out ?_
                      replace HK := Lib.hid (HK.out.putRow 2 rfl (.inr hge7) (stc 0 (fun _ => 0) (.slice A1 N c1) 0 ⟨#[]⟩ 0 0))
                      replace hr1 := hr1.setRow0 ho17 (stc 0 (fun _ => 0) (.slice A1 N c1) 0 ⟨#[]⟩ 0 0)
                      replace hr2 := hr2.setRow0 ho27 (stc 0 (fun _ => 0) (.slice A1 N c1) 0 ⟨#[]⟩ 0 0)
                      refine hK.out _ _ ?hsx45 (fun hN => ?restx45)
                      case hsx45 => (try dsimp only); with_reducible exact all02 HK.out
                      clear hK K hH
                      have hH := hN
                      clear hN
                      simp only [Act.put]
                      refine wpAnyH_ready (rs := [7]) (by kernel_rfl) (by simp) ?_
                      refine AllReadyH.cons (op_at rfl) (fun K hK => ?_) AllReadyH.nil
                      have S8 : Hid ((stc 0 (fun _ => 0) (.slice A2 N c2) 0 ⟨#[]⟩ 0 0).all (·.oneCell') = true) := Lib.hid (stc_one _ _ _ _ _ _ _ _ _)
                      refine step_store_row9 rfl 30 _ _ rfl q8 (stc 0 (fun _ => 0) (.slice A2 N c2) 0 ⟨#[]⟩ 0 0) (by rfl) (by rfl) 30 _ (HK.out.at 1 rfl) (infoS2 rfl) rfl S8.out ?_
                      replace HK := Lib.hid (HK.out.putRow 1 rfl (.inr hge8) (stc 0 (fun _ => 0) (.slice A2 N c2) 0 ⟨#[]⟩ 0 0))
                      replace hr1 := hr1.setRow0 ho18 (stc 0 (fun _ => 0) (.slice A2 N c2) 0 ⟨#[]⟩ 0 0)
                      replace hr2 := hr2.setRow0 ho28 (stc 0 (fun _ => 0) (.slice A2 N c2) 0 ⟨#[]⟩ 0 0)
                      refine hK.out _ _ ?hsx46 (fun hN => ?restx46)
                      case hsx46 => (try dsimp only); with_reducible exact all02 HK.out
                      clear hK K hH
                      simp only [Act.put]
                      refine wpAnyH_done (by kernel_rfl) ?_ _
                      (go_wp2_with fail); go_meet; exact ⟨q7, q8, A1, A2, c1, c2, rfl, rfl, Lib.hid ⟨(HK.out.perm (List.Perm.cons _ (List.Perm.swap _ _ _))), hr1, hr2, ho17, ho18, ho27, ho28, ⟨h1a, h1b⟩, ⟨h2a, h2b⟩, hge7, hge8⟩⟩
                    case z43c =>
                      exact AllReadyH.nil
                  case z41c =>
                    refine AllReadyH.cons (op_at rfl) (fun K hK => ?z48) ?z48c
                    case z48 =>
                      go_simp
                      obtain ⟨q7, hq7⟩ : ∃ q, wa8.heap.size = q := ⟨_, rfl⟩
                      have hge7 : w.heap.size ≤ q7 := by rw [← hq7]; exact HK.out.be.size
                      replace HK := Lib.hid (HK.out.add q7 hq7 (.cells #[.int .i64 0, .int .u32 0, .int .u32 0, .int .u32 0, .int .u32 0, .int .u32 0, .int .u32 0, .int .u32 0, .int .u32 0, .int .u32 0, .int .u32 0, .int .u32 0, .int .u32 0, .int .u32 0, .int .u32 0, .int .u32 0, .int .u32 0, .slice none 0 0, .int .i64 0, .string ⟨#[]⟩, .int .i64 0, .int .i64 0] 30 (0, 0)))
                      have ho17 := hr1.off (Nat.le_of_eq hq7)
                      obtain ⟨wa7, hwa7⟩ : ∃ W, wa8.alloc (.cells #[.int .i64 0, .int .u32 0, .int .u32 0, .int .u32 0, .int .u32 0, .int .u32 0, .int .u32 0, .int .u32 0, .int .u32 0, .int .u32 0, .int .u32 0, .int .u32 0, .int .u32 0, .int .u32 0, .int .u32 0, .int .u32 0, .int .u32 0, .slice none 0 0, .int .i64 0, .string ⟨#[]⟩, .int .i64 0, .int .i64 0] 30 (0, 0)) = W := ⟨_, rfl⟩
                      replace hr1 := hr1.below ((Below.refl _ _).alloc (Nat.le_refl _) (.cells #[.int .i64 0, .int .u32 0, .int .u32 0, .int .u32 0, .int .u32 0, .int .u32 0, .int .u32 0, .int .u32 0, .int .u32 0, .int .u32 0, .int .u32 0, .int .u32 0, .int .u32 0, .int .u32 0, .int .u32 0, .int .u32 0, .int .u32 0, .slice none 0 0, .int .i64 0, .string ⟨#[]⟩, .int .i64 0, .int .i64 0] 30 (0, 0)))
                      (try rw [hq7])
                      rw [hwa7] at hr1 HK ⊢
                      clear hwa7 hq7
                      refine hK.out _ _ ?hsx49 (fun hN => ?restx49)
                      case hsx49 => (try dsimp only); with_reducible exact all02 HK.out
                      clear hK K hH
                      have hH := hN
                      clear hN
                      (try simp only [Act.put, List.setIfInBounds_toArray, List.set_cons_zero, List.set_cons_succ])
                      refine wpAnyH_ready (rs := [3]) (by kernel_rfl) (by simp) ?_
                      refine AllReadyH.cons (op_at rfl) (fun K hK => ?z50) ?z50c
                      case z50 =>
                        go_simp
                        go_at_call 13
                        (with_reducible refine (start9_ref _).mono ?_)
                        rintro e wc2 ⟨A2, n2, c2, rfl, hr2, h2a, h2b, hf2, hbb⟩
                        obtain rfl : N = n2 := HN.out.symm.trans hr2.1
                        have ho28 : N = 0 ∨ Off A2 q8 := .inr (hf2.off (off_none q8) (HK.out.lt 1 rfl))
                        have ho27 : N = 0 ∨ Off A2 q7 := .inr (hf2.off (off_none q7) (HK.out.lt 2 rfl))
                        replace hr1 := hr1.below hbb
                        replace HK := Lib.hid (HK.out.after hbb)
                        clear hbb hf2
                        go_simp
                        refine hK.out _ _ ?hsx51 (fun hN => ?restx51)
                        case hsx51 => (try dsimp only); with_reducible exact all02 HK.out
                        clear hK K hH
                        have hH := hN
                        clear hN
                        (try simp only [Act.put, List.setIfInBounds_toArray, List.set_cons_zero, List.set_cons_succ])
                        refine wpAnyH_ready (rs := [6]) (by kernel_rfl) (by simp) ?_
                        refine AllReadyH.cons (op_at rfl) (fun K hK => ?_) AllReadyH.nil
                        have S7 : Hid ((stc 0 (fun _ => 0) (.slice A1 N c1) 0 ⟨#[]⟩ 0 0).all (·.oneCell') = true) := Lib.hid (stc_one _ _ _ _ _ _ _ _ _)
                        refine step_store_row9 rfl 30 _ _ rfl q7 (stc 0 (fun _ => 0) (.slice A1 N c1) 0 ⟨#[]⟩ 0 0) (by rfl) (by rfl) 30 _ (HK.out.at 2 rfl) (infoS2 rfl) rfl S7.out ?_
                        replace HK := Lib.hid (HK.out.putRow 2 rfl (.inr hge7) (stc 0 (fun _ => 0) (.slice A1 N c1) 0 ⟨#[]⟩ 0 0))
                        replace hr1 := hr1.setRow0 ho17 (stc 0 (fun _ => 0) (.slice A1 N c1) 0 ⟨#[]⟩ 0 0)
                        replace hr2 := hr2.setRow0 ho27 (stc 0 (fun _ => 0) (.slice A1 N c1) 0 ⟨#[]⟩ 0 0)
                        refine hK.out _ _ ?hsx52 (fun hN => ?restx52)
                        case hsx52 => (try dsimp only); with_reducible exact all02 HK.out
                        clear hK K hH
                        have hH := hN
                        clear hN
                        simp only [Act.put]
                        refine wpAnyH_ready (rs := [7]) (by kernel_rfl) (by simp) ?_
                        refine AllReadyH.cons (op_at rfl) (fun K hK => ?_) AllReadyH.nil
                        have S8 : Hid ((stc 0 (fun _ => 0) (.slice A2 N c2) 0 ⟨#[]⟩ 0 0).all (·.oneCell') = true) := Lib.hid (stc_one _ _ _ _ _ _ _ _ _)
                        refine step_store_row9 rfl 30 _ _ rfl q8 (stc 0 (fun _ => 0) (.slice A2 N c2) 0 ⟨#[]⟩ 0 0) (by rfl) (by rfl) 30 _ (HK.out.at 1 rfl) (infoS2 rfl) rfl S8.out ?_
                        replace HK := Lib.hid (HK.out.putRow 1 rfl (.inr hge8) (stc 0 (fun _ => 0) (.slice A2 N c2) 0 ⟨#[]⟩ 0 0))
                        replace hr1 := hr1.setRow0 ho18 (stc 0 (fun _ => 0) (.slice A2 N c2) 0 ⟨#[]⟩ 0 0)
                        replace hr2 := hr2.setRow0 ho28 (stc 0 (fun _ => 0) (.slice A2 N c2) 0 ⟨#[]⟩ 0 0)
                        refine hK.out _ _ ?hsx53 (fun hN => ?restx53)
                        case hsx53 => (try dsimp only); with_reducible exact all02 HK.out
                        clear hK K hH
                        simp only [Act.put]
                        refine wpAnyH_done (by kernel_rfl) ?_ _
                        (go_wp2_with fail); go_meet; exact ⟨q7, q8, A1, A2, c1, c2, rfl, rfl, Lib.hid ⟨(HK.out.perm (List.Perm.cons _ (List.Perm.swap _ _ _))), hr1, hr2, ho17, ho18, ho27, ho28, ⟨h1a, h1b⟩, ⟨h2a, h2b⟩, hge7, hge8⟩⟩
                      case z50c =>
                        exact AllReadyH.nil
                    case z48c =>
                      exact AllReadyH.nil
                case z39c =>
                  exact AllReadyH.nil
          case z5c =>
            refine AllReadyH.cons (op_at rfl) (fun K hK => ?z55) ?z55c
            case z55 =>
              go_simp
              obtain ⟨q7, hq7⟩ : ∃ q, w4.heap.size = q := ⟨_, rfl⟩
              have hge7 : w.heap.size ≤ q7 := by rw [← hq7]; exact HK.out.be.size
              replace HK := Lib.hid (HK.out.add q7 hq7 (.cells #[.int .i64 0, .int .u32 0, .int .u32 0, .int .u32 0, .int .u32 0, .int .u32 0, .int .u32 0, .int .u32 0, .int .u32 0, .int .u32 0, .int .u32 0, .int .u32 0, .int .u32 0, .int .u32 0, .int .u32 0, .int .u32 0, .int .u32 0, .slice none 0 0, .int .i64 0, .string ⟨#[]⟩, .int .i64 0, .int .i64 0] 30 (0, 0)))
              obtain ⟨wa7, hwa7⟩ : ∃ W, w4.alloc (.cells #[.int .i64 0, .int .u32 0, .int .u32 0, .int .u32 0, .int .u32 0, .int .u32 0, .int .u32 0, .int .u32 0, .int .u32 0, .int .u32 0, .int .u32 0, .int .u32 0, .int .u32 0, .int .u32 0, .int .u32 0, .int .u32 0, .int .u32 0, .slice none 0 0, .int .i64 0, .string ⟨#[]⟩, .int .i64 0, .int .i64 0] 30 (0, 0)) = W := ⟨_, rfl⟩
              (try rw [hq7])
              rw [hwa7] at HK ⊢
              clear hwa7 hq7
              refine hK.out _ _ ?hsx56 (fun hN => ?restx56)
              case hsx56 => (try dsimp only); with_reducible exact all02 HK.out
              clear hK K hH
              have hH := hN
              clear hN
              (try simp only [Act.put, List.setIfInBounds_toArray, List.set_cons_zero, List.set_cons_succ])
              refine wpAnyH_ready (rs := [1, 5]) (by kernel_rfl) (by simp) ?_
              refine AllReadyH.cons (op_at rfl) (fun K hK => ?z57) ?z57c
              case z57 =>
                go_simp
                go_at_call 12
                (with_reducible refine (start9 _).mono ?_)
                rintro e wc1 ⟨A1, n1, c1, rfl, hr1, h1a, h1b, hf1, hbb⟩
                obtain rfl : N = n1 := HN.out.symm.trans hr1.1
                have ho17 : N = 0 ∨ Off A1 q7 := .inr (hf1.off (off_none q7) (HK.out.lt 1 rfl))
                replace HK := Lib.hid (HK.out.after hbb)
                clear hbb hf1
                go_simp
                refine hK.out _ _ ?hsx58 (fun hN => ?restx58)
                case hsx58 => (try dsimp only); with_reducible exact all02 HK.out
                clear hK K hH
                have hH := hN
                clear hN
                (try simp only [Act.put, List.setIfInBounds_toArray, List.set_cons_zero, List.set_cons_succ])
                refine wpAnyH_ready (rs := [3, 5]) (by kernel_rfl) (by simp) ?_
                refine AllReadyH.cons (op_at rfl) (fun K hK => ?z59) ?z59c
                case z59 =>
                  go_simp
                  go_at_call 13
                  (with_reducible refine (start9_ref _).mono ?_)
                  rintro e wc2 ⟨A2, n2, c2, rfl, hr2, h2a, h2b, hf2, hbb⟩
                  obtain rfl : N = n2 := HN.out.symm.trans hr2.1
                  have ho27 : N = 0 ∨ Off A2 q7 := .inr (hf2.off (off_none q7) (HK.out.lt 1 rfl))
                  replace hr1 := hr1.below hbb
                  replace HK := Lib.hid (HK.out.after hbb)
                  clear hbb hf2
                  go_simp
                  refine hK.out _ _ ?hsx60 (fun hN => ?restx60)
                  case hsx60 => (try dsimp only); with_reducible exact all02 HK.out
                  clear hK K hH
                  have hH := hN
                  clear hN
                  (try simp only [Act.put, List.setIfInBounds_toArray, List.set_cons_zero, List.set_cons_succ])
                  refine wpAnyH_ready (rs := [5]) (by kernel_rfl) (by simp) ?_
                  refine AllReadyH.cons (op_at rfl) (fun K hK => ?z61) ?z61c
                  case z61 =>
                    go_simp
                    obtain ⟨q8, hq8⟩ : ∃ q, wc2.heap.size = q := ⟨_, rfl⟩
                    have hge8 : w.heap.size ≤ q8 := by rw [← hq8]; exact HK.out.be.size
                    replace HK := Lib.hid (HK.out.add q8 hq8 (.cells #[.int .i64 0, .int .u32 0, .int .u32 0, .int .u32 0, .int .u32 0, .int .u32 0, .int .u32 0, .int .u32 0, .int .u32 0, .int .u32 0, .int .u32 0, .int .u32 0, .int .u32 0, .int .u32 0, .int .u32 0, .int .u32 0, .int .u32 0, .slice none 0 0, .int .i64 0, .string ⟨#[]⟩, .int .i64 0, .int .i64 0] 30 (0, 0)))
                    have ho18 := hr1.off (Nat.le_of_eq hq8)
                    have ho28 := hr2.off (Nat.le_of_eq hq8)
                    obtain ⟨wa8, hwa8⟩ : ∃ W, wc2.alloc (.cells #[.int .i64 0, .int .u32 0, .int .u32 0, .int .u32 0, .int .u32 0, .int .u32 0, .int .u32 0, .int .u32 0, .int .u32 0, .int .u32 0, .int .u32 0, .int .u32 0, .int .u32 0, .int .u32 0, .int .u32 0, .int .u32 0, .int .u32 0, .slice none 0 0, .int .i64 0, .string ⟨#[]⟩, .int .i64 0, .int .i64 0] 30 (0, 0)) = W := ⟨_, rfl⟩
                    replace hr1 := hr1.below ((Below.refl _ _).alloc (Nat.le_refl _) (.cells #[.int .i64 0, .int .u32 0, .int .u32 0, .int .u32 0, .int .u32 0, .int .u32 0, .int .u32 0, .int .u32 0, .int .u32 0, .int .u32 0, .int .u32 0, .int .u32 0, .int .u32 0, .int .u32 0, .int .u32 0, .int .u32 0, .int .u32 0, .slice none 0 0, .int .i64 0, .string ⟨#[]⟩, .int .i64 0, .int .i64 0] 30 (0, 0)))
                    replace hr2 := hr2.below ((Below.refl _ _).alloc (Nat.le_refl _) (.cells #[.int .i64 0, .int .u32 0, .int .u32 0, .int .u32 0, .int .u32 0, .int .u32 0, .int .u32 0, .int .u32 0, .int .u32 0, .int .u32 0, .int .u32 0, .int .u32 0, .int .u32 0, .int .u32 0, .int .u32 0, .int .u32 0, .int .u32 0, .slice none 0 0, .int .i64 0, .string ⟨#[]⟩, .int .i64 0, .int .i64 0] 30 (0, 0)))
                    (try rw [hq8])
                    rw [hwa8] at hr1 hr2 HK ⊢
                    clear hwa8 hq8
                    refine hK.out _ _ ?hsx62 (fun hN => ?restx62)
                    case hsx62 => (try dsimp only); with_reducible exact all02 HK.out
                    clear hK K hH
                    have hH := hN
                    clear hN
                    (try simp only [Act.put, List.setIfInBounds_toArray, List.set_cons_zero, List.set_cons_succ])
                    refine wpAnyH_ready (rs := [6]) (by kernel_rfl) (by simp) ?_
                    refine AllReadyH.cons (op_at rfl) (fun K hK => ?_) AllReadyH.nil
                    have S7 : Hid ((stc 0 (fun _ => 0) (.slice A1 N c1) 0 ⟨#[]⟩ 0 0).all (·.oneCell') = true) := Lib.hid (stc_one _ _ _ _ _ _ _ _ _)
                    refine step_store_row9 rfl 30 _ _ rfl q7 (stc 0 (fun _ => 0) (.slice A1 N c1) 0 ⟨#[]⟩ 0 0) (by rfl) (by rfl) 30 _ (HK.out.at 1 rfl) (infoS2 rfl) rfl S7.out ?_
                    replace HK := Lib.hid (HK.out.putRow 1 rfl (.inr hge7) (stc 0 (fun _ => 0) (.slice A1 N c1) 0 ⟨#[]⟩ 0 0))
                    replace hr1 := hr1.setRow0 ho17 (stc 0 (fun _ => 0) (.slice A1 N c1) 0 ⟨#[]⟩ 0 0)
                    replace hr2 := hr2.setRow0 ho27 (stc 0 (fun _ => 0) (.slice A1 N c1) 0 ⟨#[]⟩ 0 0)
                    refine hK.out _ _ ?hsx63 (fun hN => ?restx63)
                    case hsx63 => (try dsimp only); with_reducible exact all02 HK.out
                    clear hK K hH
                    have hH := hN
                    clear hN
                    simp only [Act.put]
                    refine wpAnyH_ready (rs := [7]) (by kernel_rfl) (by simp) ?_
                    refine AllReadyH.cons (op_at rfl) (fun K hK => ?_) AllReadyH.nil
                    have S8 : Hid ((stc 0 (fun _ => 0) (.slice A2 N c2) 0 ⟨#[]⟩ 0 0).all (·.oneCell') = true) := Lib.hid (stc_one _ _ _ _ _ _ _ _ _)
                    refine step_store_row9 rfl 30 _ _ rfl q8 (stc 0 (fun _ => 0) (.slice A2 N c2) 0 ⟨#[]⟩ 0 0) (by rfl) (by rfl) 30 _ (HK.out.at 2 rfl) (infoS2 rfl) rfl S8.out ?_
                    replace HK := Lib.hid (HK.out.putRow 2 rfl (.inr hge8) (stc 0 (fun _ => 0) (.slice A2 N c2) 0 ⟨#[]⟩ 0 0))
                    replace hr1 := hr1.setRow0 ho18 (stc 0 (fun _ => 0) (.slice A2 N c2) 0 ⟨#[]⟩ 0 0)
                    replace hr2 := hr2.setRow0 ho28 (stc 0 (fun _ => 0) (.slice A2 N c2) 0 ⟨#[]⟩ 0 0)
                    refine hK.out _ _ ?hsx64 (fun hN => ?restx64)
                    case hsx64 => (try dsimp only); with_reducible exact all02 HK.out
                    clear hK K hH
                    simp only [Act.put]
                    refine wpAnyH_done (by kernel_rfl) ?_ _
                    (go_wp2_with fail); go_meet; exact ⟨q7, q8, A1, A2, c1, c2, rfl, rfl, Lib.hid ⟨HK.out, hr1, hr2, ho17, ho18, ho27, ho28, ⟨h1a, h1b⟩, ⟨h2a, h2b⟩, hge7, hge8⟩⟩
                  case z61c =>
                    exact AllReadyH.nil
                case z59c =>
                  refine AllReadyH.cons (op_at rfl) (fun K hK => ?z66) ?z66c
                  case z66 =>
                    go_simp
                    obtain ⟨q8, hq8⟩ : ∃ q, wc1.heap.size = q := ⟨_, rfl⟩
                    have hge8 : w.heap.size ≤ q8 := by rw [← hq8]; exact HK.out.be.size
                    replace HK := Lib.hid (HK.out.add q8 hq8 (.cells #[.int .i64 0, .int .u32 0, .int .u32 0, .int .u32 0, .int .u32 0, .int .u32 0, .int .u32 0, .int .u32 0, .int .u32 0, .int .u32 0, .int .u32 0, .int .u32 0, .int .u32 0, .int .u32 0, .int .u32 0, .int .u32 0, .int .u32 0, .slice none 0 0, .int .i64 0, .string ⟨#[]⟩, .int .i64 0, .int .i64 0] 30 (0, 0)))
                    have ho18 := hr1.off (Nat.le_of_eq hq8)
                    obtain ⟨wa8, hwa8⟩ : ∃ W, wc1.alloc (.cells #[.int .i64 0, .int .u32 0, .int .u32 0, .int .u32 0, .int .u32 0, .int .u32 0, .int .u32 0, .int .u32 0, .int .u32 0, .int .u32 0, .int .u32 0, .int .u32 0, .int .u32 0, .int .u32 0, .int .u32 0, .int .u32 0, .int .u32 0, .slice none 0 0, .int .i64 0, .string ⟨#[]⟩, .int .i64 0, .int .i64 0] 30 (0, 0)) = W := ⟨_, rfl⟩
                    replace hr1 := hr1.below ((Below.refl _ _).alloc (Nat.le_refl _) (.cells #[.int .i64 0, .int .u32 0, .int .u32 0, .int .u32 0, .int .u32 0, .int .u32 0, .int .u32 0, .int .u32 0, .int .u32 0, .int .u32 0, .int .u32 0, .int .u32 0, .int .u32 0, .int .u32 0, .int .u32 0, .int .u32 0, .int .u32 0, .slice none 0 0, .int .i64 0, .string ⟨#[]⟩, .int .i64 0, .int .i64 0] 30 (0, 0)))
                    (try rw [hq8])
                    rw [hwa8] at hr1 HK ⊢
                    clear hwa8 hq8
                    refine hK.out _ _ ?hsx67 (fun hN => ?restx67)
                    case hsx67 => (try dsimp only); with_reducible exact all02 HK.out
                    clear hK K hH
                    have hH := hN
                    clear hN
                    (try simp only [Act.put, List.setIfInBounds_toArray, List.set_cons_zero, List.set_cons_succ])
                    refine wpAnyH_ready (rs := [3]) (by kernel_rfl) (by simp) ?_
                    refine AllReadyH.cons (op_at rfl) (fun K hK => ?z68) ?z68c
                    case z68 =>
                      go_simp
                      go_at_call 13
                      (with_reducible refine (start9_ref _).mono ?_)
                      rintro e wc2 ⟨A2, n2, c2, rfl, hr2, h2a, h2b, hf2, hbb⟩
                      obtain rfl : N = n2 := HN.out.symm.trans hr2.1
                      have ho27 : N = 0 ∨ Off A2 q7 := .inr (hf2.off (off_none q7) (HK.out.lt 1 rfl))
                      have ho28 : N = 0 ∨ Off A2 q8 := .inr (hf2.off (off_none q8) (HK.out.lt 2 rfl))
                      replace hr1 := hr1.below hbb
                      replace HK := Lib.hid (HK.out.after hbb)
                      clear hbb hf2
                      go_simp
                      refine hK.out _ _ ?hsx69 (fun hN => ?restx69)
                      case hsx69 => (try dsimp only); with_reducible exact all02 HK.out
                      clear hK K hH
                      have hH := hN
                      clear hN
                      (try simp only [Act.put, List.setIfInBounds_toArray, List.set_cons_zero, List.set_cons_succ])
                      refine wpAnyH_ready (rs := [6]) (by kernel_rfl) (by simp) ?_
                      refine AllReadyH.cons (op_at rfl) (fun K hK => ?_) AllReadyH.nil
                      have S7 : Hid ((stc 0 (fun _ => 0) (.slice A1 N c1) 0 ⟨#[]⟩ 0 0).all (·.oneCell') = true) := Lib.hid (stc_one _ _ _ _ _ _ _ _ _)
                      refine step_store_row9 rfl 30 _ _ rfl q7 (stc 0 (fun _ => 0) (.slice A1 N c1) 0 ⟨#[]⟩ 0 0) (by rfl) (by rfl) 30 _ (HK.out.at 1 rfl) (infoS2 rfl) rfl S7.out ?_
                      replace HK := Lib.hid (HK.out.putRow 1 rfl (.inr hge7) (stc 0 (fun _ => 0) (.slice A1 N c1) 0 ⟨#[]⟩ 0 0))
                      replace hr1 := hr1.setRow0 ho17 (stc 0 (fun _ => 0) (.slice A1 N c1) 0 ⟨#[]⟩ 0 0)
                      replace hr2 := hr2.setRow0 ho27 (stc 0 (fun _ => 0) (.slice A1 N c1) 0 ⟨#[]⟩ 0 0)
                      refine hK.out _ _ ?hsx70 (fun hN => ?restx70)
                      case hsx70 => (try dsimp only); with_reducible exact all02 HK.out
                      clear hK K hH
                      have hH := hN
                      clear hN
                      simp only [Act.put]
                      refine wpAnyH_ready (rs := [7]) (by kernel_rfl) (by simp) ?_
                      refine AllReadyH.cons (op_at rfl) (fun K hK => ?_) AllReadyH.nil
                      have S8 : Hid ((stc 0 (fun _ => 0) (.slice A2 N c2) 0 ⟨#[]⟩ 0 0).all (·.oneCell') = true) := Lib.hid (stc_one _ _ _ _ _ _ _ _ _)
                      refine step_store_row9 rfl 30 _ _ rfl q8 (stc 0 (fun _ => 0) (.slice A2 N c2) 0 ⟨#[]⟩ 0 0) (by rfl) (by rfl) 30 _ (HK.out.at 2 rfl) (infoS2 rfl) rfl S8.out ?_
                      replace HK := Lib.hid (HK.out.putRow 2 rfl (.inr hge8) (stc 0 (fun _ => 0) (.slice A2 N c2) 0 ⟨#[]⟩ 0 0))
                      replace hr1 := hr1.setRow0 ho18 (stc 0 (fun _ => 0) (.slice A2 N c2) 0 ⟨#[]⟩ 0 0)
                      replace hr2 := hr2.setRow0 ho28 (stc 0 (fun _ => 0) (.slice A2 N c2) 0 ⟨#[]⟩ 0 0)
                      refine hK.out _ _ ?hsx71 (fun hN => ?restx71)
                      case hsx71 => (try dsimp only); with_reducible exact all02 HK.out
                      clear hK K hH
                      simp only [Act.put]
                      refine wpAnyH_done (by kernel_rfl) ?_ _
                      (go_wp2_with fail); go_meet; exact ⟨q7, q8, A1, A2, c1, c2, rfl, rfl, Lib.hid ⟨HK.out, hr1, hr2, ho17, ho18, ho27, ho28, ⟨h1a, h1b⟩, ⟨h2a, h2b⟩, hge7, hge8⟩⟩
                    case z68c =>
                      exact AllReadyH.nil
                  case z66c =>
                    exact AllReadyH.nil
              case z57c =>
                refine AllReadyH.cons (op_at rfl) (fun K hK => ?z73) ?z73c
                case z73 =>
                  go_simp
                  obtain ⟨q8, hq8⟩ : ∃ q, wa7.heap.size = q := ⟨_, rfl⟩
                  have hge8 : w.heap.size ≤ q8 := by rw [← hq8]; exact HK.out.be.size
                  replace HK := Lib.hid (HK.out.add q8 hq8 (.cells #[.int .i64 0, .int .u32 0, .int .u32 0, .int .u32 0, .int .u32 0, .int .u32 0, .int .u32 0, .int .u32 0, .int .u32 0, .int .u32 0, .int .u32 0, .int .u32 0, .int .u32 0, .int .u32 0, .int .u32 0, .int .u32 0, .int .u32 0, .slice none 0 0, .int .i64 0, .string ⟨#[]⟩, .int .i64 0, .int .i64 0] 30 (0, 0)))
                  obtain ⟨wa8, hwa8⟩ : ∃ W, wa7.alloc (.cells #[.int .i64 0, .int .u32 0, .int .u32 0, .int .u32 0, .int .u32 0, .int .u32 0, .int .u32 0, .int .u32 0, .int .u32 0, .int .u32 0, .int .u32 0, .int .u32 0, .int .u32 0, .int .u32 0, .int .u32 0, .int .u32 0, .int .u32 0, .slice none 0 0, .int .i64 0, .string ⟨#[]⟩, .int .i64 0, .int .i64 0] 30 (0, 0)) = W := ⟨_, rfl⟩
                  (try rw [hq8])
                  rw [hwa8] at HK ⊢
                  clear hwa8 hq8
                  refine hK.out _ _ ?hsx74 (fun hN => ?restx74)
                  case hsx74 => (try dsimp only); with_reducible exact all02 HK.out
                  clear hK K hH
                  have hH := hN
                  clear hN
                  (try simp only [Act.put, List.setIfInBounds_toArray, List.set_cons_zero, List.set_cons_succ])
                  refine wpAnyH_ready (rs := [1]) (by kernel_rfl) (by simp) ?_
                  refine AllReadyH.cons (op_at rfl) (fun K hK => ?z75) ?z75c
                  case z75 =>
                    go_simp
                    go_at_call 12
                    (with_reducible refine (start9 _).mono ?_)
                    rintro e wc1 ⟨A1, n1, c1, rfl, hr1, h1a, h1b, hf1, hbb⟩
                    obtain rfl : N = n1 := HN.out.symm.trans hr1.1
                    have ho17 : N = 0 ∨ Off A1 q7 := .inr (hf1.off (off_none q7) (HK.out.lt 1 rfl))
                    have ho18 : N = 0 ∨ Off A1 q8 := .inr (hf1.off (off_none q8) (HK.out.lt 2 rfl))
                    replace HK := Lib.hid (HK.out.after hbb)
                    clear hbb hf1
                    go_simp
                    refine hK.out _ _ ?hsx76 (fun hN => ?restx76)
                    case hsx76 => (try dsimp only); with_reducible exact all02 HK.out
                    clear hK K hH
                    have hH := hN
                    clear hN
                    (try simp only [Act.put, List.setIfInBounds_toArray, List.set_cons_zero, List.set_cons_succ])
                    refine wpAnyH_ready (rs := [3]) (by kernel_rfl) (by simp) ?_
                    refine AllReadyH.cons (op_at rfl) (fun K hK => ?z77) ?z77c
                    case z77 =>
                      go_simp
                      go_at_call 13
                      (with_reducible refine (start9_ref _).mono ?_)
                      rintro e wc2 ⟨A2, n2, c2, rfl, hr2, h2a, h2b, hf2, hbb⟩
                      obtain rfl : N = n2 := HN.out.symm.trans hr2.1
                      have ho27 : N = 0 ∨ Off A2 q7 := .inr (hf2.off (off_none q7) (HK.out.lt 1 rfl))
                      have ho28 : N = 0 ∨ Off A2 q8 := .inr (hf2.off (off_none q8) (HK.out.lt 2 rfl))
                      replace hr1 := hr1.below hbb
                      replace HK := Lib.hid (HK.out.after hbb)
                      clear hbb hf2
                      go_simp
                      refine hK.out _ _ ?hsx78 (fun hN => ?restx78)
                      case hsx78 => (try dsimp only); with_reducible exact all02 HK.out
                      clear hK K hH
                      have hH := hN
                      clear hN
                      (try simp only [Act.put, List.setIfInBounds_toArray, List.set_cons_zero, List.set_cons_succ])
                      refine wpAnyH_ready (rs := [6]) (by kernel_rfl) (by simp) ?_
                      refine AllReadyH.cons (op_at rfl) (fun K hK => ?_) AllReadyH.nil
                      have S7 : Hid ((stc 0 (fun _ => 0) (.slice A1 N c1) 0 ⟨#[]⟩ 0 0).all (·.oneCell') = true) := Lib.hid (stc_one _ _ _ _ _ _ _ _ _)
                      refine step_store_row9 rfl 30 _ _ rfl q7 (stc 0 (fun _ => 0) (.slice A1 N c1) 0 ⟨#[]⟩ 0 0) (by rfl) (by rfl) 30 _ (HK.out.at 1 rfl) (infoS2 rfl) rfl S7.out ?_
                      replace HK := Lib.hid (HK.out.putRow 1 rfl (.inr hge7) (stc 0 (fun _ => 0) (.slice A1 N c1) 0 ⟨#[]⟩ 0 0))
                      replace hr1 := hr1.setRow0 ho17 (stc 0 (fun _ => 0) (.slice A1 N c1) 0 ⟨#[]⟩ 0 0)
                      replace hr2 := hr2.setRow0 ho27 (stc 0 (fun _ => 0) (.slice A1 N c1) 0 ⟨#[]⟩ 0 0)
                      refine hK.out _ _ ?hsx79 (fun hN => ?restx79)
                      case hsx79 => (try dsimp only); with_reducible exact all02 HK.out
                      clear hK K hH
                      have hH := hN
                      clear hN
                      simp only [Act.put]
                      refine wpAnyH_ready (rs := [7]) (by kernel_rfl) (by simp) ?_
                      refine AllReadyH.cons (op_at rfl) (fun K hK => ?_) AllReadyH.nil
                      have S8 : Hid ((stc 0 (fun _ => 0) (.slice A2 N c2) 0 ⟨#[]⟩ 0 0).all (·.oneCell') = true) := Lib.hid (stc_one _ _ _ _ _ _ _ _ _)
                      refine step_store_row9 rfl 30 _ _ rfl q8 (stc 0 (fun _ => 0) (.slice A2 N c2) 0 ⟨#[]⟩ 0 0) (by rfl) (by rfl) 30 _ (HK.out.at 2 rfl) (infoS2 rfl) rfl S8.out ?_
                      replace HK := Lib.hid (HK.out.putRow 2 rfl (.inr hge8) (stc 0 (fun _ => 0) (.slice A2 N c2) 0 ⟨#[]⟩ 0 0))
                      replace hr1 := hr1.setRow0 ho18 (stc 0 (fun _ => 0) (.slice A2 N c2) 0 ⟨#[]⟩ 0 0)
                      replace hr2 := hr2.setRow0 ho28 (stc 0 (fun _ => 0) (.slice A2 N c2) 0 ⟨#[]⟩ 0 0)
                      refine hK.out _ _ ?hsx80 (fun hN => ?restx80)
                      case hsx80 => (try dsimp only); with_reducible exact all02 HK.out
                      clear hK K hH
                      simp only [Act.put]
                      refine wpAnyH_done (by kernel_rfl) ?_ _
                      (go_wp2_with fail); go_meet; exact ⟨q7, q8, A1, A2, c1, c2, rfl, rfl, Lib.hid ⟨HK.out, hr1, hr2, ho17, ho18, ho27, ho28, ⟨h1a, h1b⟩, ⟨h2a, h2b⟩, hge7, hge8⟩⟩
                    case z77c =>
                      exact AllReadyH.nil
                  case z75c =>
                    exact AllReadyH.nil
                case z73c =>
                  exact AllReadyH.nil
            case z55c =>
              refine AllReadyH.cons (op_at rfl) (fun K hK => ?z82) ?z82c
              case z82 =>
                go_simp
                obtain ⟨q8, hq8⟩ : ∃ q, w4.heap.size = q := ⟨_, rfl⟩
                have hge8 : w.heap.size ≤ q8 := by rw [← hq8]; exact HK.out.be.size
                replace HK := Lib.hid (HK.out.add q8 hq8 (.cells #[.int .i64 0, .int .u32 0, .int .u32 0, .int .u32 0, .int .u32 0, .int .u32 0, .int .u32 0, .int .u32 0, .int .u32 0, .int .u32 0, .int .u32 0, .int .u32 0, .int .u32 0, .int .u32 0, .int .u32 0, .int .u32 0, .int .u32 0, .slice none 0 0, .int .i64 0, .string ⟨#[]⟩, .int .i64 0, .int .i64 0] 30 (0, 0)))
                obtain ⟨wa8, hwa8⟩ : ∃ W, w4.alloc (.cells #[.int .i64 0, .int .u32 0, .int .u32 0, .int .u32 0, .int .u32 0, .int .u32 0, .int .u32 0, .int .u32 0, .int .u32 0, .int .u32 0, .int .u32 0, .int .u32 0, .int .u32 0, .int .u32 0, .int .u32 0, .int .u32 0, .int .u32 0, .slice none 0 0, .int .i64 0, .string ⟨#[]⟩, .int .i64 0, .int .i64 0] 30 (0, 0)) = W := ⟨_, rfl⟩
                (try rw [hq8])
                rw [hwa8] at HK ⊢
                clear hwa8 hq8
                refine hK.out _ _ ?hsx83 (fun hN => ?restx83)
                case hsx83 => (try dsimp only); with_reducible exact all02 HK.out
                clear hK K hH
                have hH := hN
                clear hN
                (try simp only [Act.put, List.setIfInBounds_toArray, List.set_cons_zero, List.set_cons_succ])
                refine wpAnyH_ready (rs := [1, 4]) (by kernel_rfl) (by simp) ?_
                refine AllReadyH.cons (op_at rfl) (fun K hK => ?z84) ?z84c
                case z84 =>
                  go_simp
                  go_at_call 12
                  (with_reducible refine (start9 _).mono ?_)
                  rintro e wc1 ⟨A1, n1, c1, rfl, hr1, h1a, h1b, hf1, hbb⟩
                  obtain rfl : N = n1 := HN.out.symm.trans hr1.1
                  have ho18 : N = 0 ∨ Off A1 q8 := .inr (hf1.off (off_none q8) (HK.out.lt 1 rfl))
                  replace HK := Lib.hid (HK.out.after hbb)
                  clear hbb hf1
                  go_simp
                  refine hK.out _ _ ?hsx85 (fun hN => ?restx85)
                  case hsx85 => (try dsimp only); with_reducible exact all02 HK.out
                  clear hK K hH
                  have hH := hN
                  clear hN
                  (try simp only [Act.put, List.setIfInBounds_toArray, List.set_cons_zero, List.set_cons_succ])
                  refine wpAnyH_ready (rs := [3, 4]) (by kernel_rfl) (by simp) ?_
                  refine AllReadyH.cons (op_at rfl) (fun K hK => ?z86) ?z86c
                  case z86 =>
                    go_simp
                    go_at_call 13
                    (with_reducible refine (start9_ref _).mono ?_)
                    rintro e wc2 ⟨A2, n2, c2, rfl, hr2, h2a, h2b, hf2, hbb⟩
                    obtain rfl : N = n2 := HN.out.symm.trans hr2.1
                    have ho28 : N = 0 ∨ Off A2 q8 := .inr (hf2.off (off_none q8) (HK.out.lt 1 rfl))
                    replace hr1 := hr1.below hbb
                    replace HK := Lib.hid (HK.out.after hbb)
                    clear hbb hf2
                    go_simp
                    refine hK.out _ _ ?hsx87 (fun hN => ?restx87)
                    case hsx87 => (try dsimp only); with_reducible exact all02 HK.out
                    clear hK K hH
                    have hH := hN
                    clear hN
                    (try simp only [Act.put, List.setIfInBounds_toArray, List.set_cons_zero, List.set_cons_succ])
                    refine wpAnyH_ready (rs := [4]) (by kernel_rfl) (by simp) ?_
                    refine AllReadyH.cons (op_at rfl) (fun K hK => ?z88) ?z88c
                    case z88 =>
                      go_simp
                      obtain ⟨q7, hq7⟩ : ∃ q, wc2.heap.size = q := ⟨_, rfl⟩
                      have hge7 : w.heap.size ≤ q7 := by rw [← hq7]; exact HK.out.be.size
                      replace HK := Lib.hid (HK.out.add q7 hq7 (.cells #[.int .i64 0, .int .u32 0, .int .u32 0, .int .u32 0, .int .u32 0, .int .u32 0, .int .u32 0, .int .u32 0, .int .u32 0, .int .u32 0, .int .u32 0, .int .u32 0, .int .u32 0, .int .u32 0, .int .u32 0, .int .u32 0, .int .u32 0, .slice none 0 0, .int .i64 0, .string ⟨#[]⟩, .int .i64 0, .int .i64 0] 30 (0, 0)))
                      have ho17 := hr1.off (Nat.le_of_eq hq7)
                      have ho27 := hr2.off (Nat.le_of_eq hq7)
                      obtain ⟨wa7, hwa7⟩ : ∃ W, wc2.alloc (.cells #[.int .i64 0, .int .u32 0, .int .u32 0, .int .u32 0, .int .u32 0, .int .u32 0, .int .u32 0, .int .u32 0, .int .u32 0, .int .u32 0, .int .u32 0, .int .u32 0, .int .u32 0, .int .u32 0, .int .u32 0, .int .u32 0, .int .u32 0, .slice none 0 0, .int .i64 0, .string ⟨#[]⟩, .int .i64 0, .int .i64 0] 30 (0, 0)) = W := ⟨_, rfl⟩
                      replace hr1 := hr1.below ((Below.refl _ _).alloc (Nat.le_refl _) (.cells #[.int .i64 0, .int .u32 0, .int .u32 0, .int .u32 0, .int .u32 0, .int .u32 0, .int .u32 0, .int .u32 0, .int .u32 0, .int .u32 0, .int .u32 0, .int .u32 0, .int .u32 0, .int .u32 0, .int .u32 0, .int .u32 0, .int .u32 0, .slice none 0 0, .int .i64 0, .string ⟨#[]⟩, .int .i64 0, .int .i64 0] 30 (0, 0)))
                      replace hr2 := hr2.below ((Below.refl _ _).alloc (Nat.le_refl _) (.cells #[.int .i64 0, .int .u32 0, .int .u32 0, .int .u32 0, .int .u32 0, .int .u32 0, .int .u32 0, .int .u32 0, .int .u32 0, .int .u32 0, .int .u32 0, .int .u32 0, .int .u32 0, .int .u32 0, .int .u32 0, .int .u32 0, .int .u32 0, .slice none 0 0, .int .i64 0, .string ⟨#[]⟩, .int .i64 0, .int .i64 0] 30 (0, 0)))
                      (try rw [hq7])
                      rw [hwa7] at hr1 hr2 HK ⊢
                      clear hwa7 hq7
                      refine hK.out _ _ ?hsx89 (fun hN => ?restx89)
                      case hsx89 => (try dsimp only); with_reducible exact all02 HK.out
                      clear hK K hH
                      have hH := hN
                      clear hN
                      (try simp only [Act.put, List.setIfInBounds_toArray, List.set_cons_zero, List.set_cons_succ])
                      refine wpAnyH_ready (rs := [6]) (by kernel_rfl) (by simp) ?_
                      refine AllReadyH.cons (op_at rfl) (fun K hK => ?_) AllReadyH.nil
                      have S7 : Hid ((stc 0 (fun _ => 0) (.slice A1 N c1) 0 ⟨#[]⟩ 0 0).all (·.oneCell') = true) := Lib.hid (stc_one _ _ _ _ _ _ _ _ _)
                      refine step_store_row9 rfl 30 _ _ rfl q7 (stc 0 (fun _ => 0) (.slice A1 N c1) 0 ⟨#[]⟩ 0 0) (by rfl) (by rfl) 30 _ (HK.out.at 2 rfl) (infoS2 rfl) rfl S7.out ?_
                      replace HK := Lib.hid (HK.out.putRow 2 rfl (.inr hge7) (stc 0 (fun _ => 0) (.slice A1 N c1) 0 ⟨#[]⟩ 0 0))
                      replace hr1 := hr1.setRow0 ho17 (stc 0 (fun _ => 0) (.slice A1 N c1) 0 ⟨#[]⟩ 0 0)
                      replace hr2 := hr2.setRow0 ho27 (stc 0 (fun _ => 0) (.slice A1 N c1) 0 ⟨#[]⟩ 0 0)
                      refine hK.out _ _ ?hsx90 (fun hN => ?restx90)
                      case hsx90 => (try dsimp only); with_reducible exact all02 HK.out
                      clear hK K hH
                      have hH := hN
                      clear hN
                      simp only [Act.put]
                      refine wpAnyH_ready (rs := [7]) (by kernel_rfl) (by simp) ?_
                      refine AllReadyH.cons (op_at rfl) (fun K hK => ?_) AllReadyH.nil
                      have S8 : Hid ((stc 0 (fun _ => 0) (.slice A2 N c2) 0 ⟨#[]⟩ 0 0).all (·.oneCell') = true) := Lib.hid (stc_one _ _ _ _ _ _ _ _ _)
                      refine step_store_row9 rfl 30 _ _ rfl q8 (stc 0 (fun _ => 0) (.slice A2 N c2) 0 ⟨#[]⟩ 0 0) (by rfl) (by rfl) 30 _ (HK.out.at 1 rfl) (infoS2 rfl) rfl S8.out ?_
                      replace HK := Lib.hid (HK.out.putRow 1 rfl (.inr hge8) (stc 0 (fun _ => 0) (.slice A2 N c2) 0 ⟨#[]⟩ 0 0))
                      replace hr1 := hr1.setRow0 ho18 (stc 0 (fun _ => 0) (.slice A2 N c2) 0 ⟨#[]⟩ 0 0)
                      replace hr2 := hr2.setRow0 ho28 (stc 0 (fun _ => 0) (.slice A2 N c2) 0 ⟨#[]⟩ 0 0)
                      refine hK.out _ _ ?hsx91 (fun hN => ?restx91)
                      case hsx91 => (try dsimp only); with_reducible exact all02 HK.out
                      clear hK K hH
                      simp only [Act.put]
                      refine wpAnyH_done (by kernel_rfl) ?_ _
                      (go_wp2_with fail); go_meet; exact ⟨q7, q8, A1, A2, c1, c2, rfl, rfl, Lib.hid ⟨(HK.out.perm (List.Perm.cons _ (List.Perm.swap _ _ _))), hr1, hr2, ho17, ho18, ho27, ho28, ⟨h1a, h1b⟩, ⟨h2a, h2b⟩, hge7, hge8⟩⟩
                    case z88c =>
                      exact AllReadyH.nil
                  case z86c =>
                    refine AllReadyH.cons (op_at rfl) (fun K hK => ?z93) ?z93c
                    case z93 =>
                      go_simp
                      obtain ⟨q7, hq7⟩ : ∃ q, wc1.heap.size = q := ⟨_, rfl⟩
                      have hge7 : w.heap.size ≤ q7 := by rw [← hq7]; exact HK.out.be.size
                      replace HK := Lib.hid (HK.out.add q7 hq7 (.cells #[.int .i64 0, .int .u32 0, .int .u32 0, .int .u32 0, .int .u32 0, .int .u32 0, .int .u32 0, .int .u32 0, .int .u32 0, .int .u32 0, .int .u32 0, .int .u32 0, .int .u32 0, .int .u32 0, .int .u32 0, .int .u32 0, .int .u32 0, .slice none 0 0, .int .i64 0, .string ⟨#[]⟩, .int .i64 0, .int .i64 0] 30 (0, 0)))
                      have ho17 := hr1.off (Nat.le_of_eq hq7)
                      obtain ⟨wa7, hwa7⟩ : ∃ W, wc1.alloc (.cells #[.int .i64 0, .int .u32 0, .int .u32 0, .int .u32 0, .int .u32 0, .int .u32 0, .int .u32 0, .int .u32 0, .int .u32 0, .int .u32 0, .int .u32 0, .int .u32 0, .int .u32 0, .int .u32 0, .int .u32 0, .int .u32 0, .int .u32 0, .slice none 0 0, .int .i64 0, .string ⟨#[]⟩, .int .i64 0, .int .i64 0] 30 (0, 0)) = W := ⟨_, rfl⟩
                      replace hr1 := hr1.below ((Below.refl _ _).alloc (Nat.le_refl _) (.cells #[.int .i64 0, .int .u32 0, .int .u32 0, .int .u32 0, .int .u32 0, .int .u32 0, .int .u32 0, .int .u32 0, .int .u32 0, .int .u32 0, .int .u32 0, .int .u32 0, .int .u32 0, .int .u32 0, .int .u32 0, .int .u32 0, .int .u32 0, .slice none 0 0, .int .i64 0, .string ⟨#[]⟩, .int .i64 0, .int .i64 0] 30 (0, 0)))
                      (try rw [hq7])
                      rw [hwa7] at hr1 HK ⊢
                      clear hwa7 hq7
                      refine hK.out _ _ ?hsx94 (fun hN => ?restx94)
                      case hsx94 => (try dsimp only); with_reducible exact all02 HK.out
                      clear hK K hH
                      have hH := hN
                      clear hN
                      (try simp only [Act.put, List.setIfInBounds_toArray, List.set_cons_zero, List.set_cons_succ])
                      refine wpAnyH_ready (rs := [3]) (by kernel_rfl) (by simp) ?_
                      refine AllReadyH.cons (op_at rfl) (fun K hK => ?z95) ?z95c
                      case z95 =>
                        go_simp
                        go_at_call 13
                        (with_reducible refine (start9_ref _).mono ?_)
                        rintro e wc2 ⟨A2, n2, c2, rfl, hr2, h2a, h2b, hf2, hbb⟩
                        obtain rfl : N = n2 := HN.out.symm.trans hr2.1
                        have ho28 : N = 0 ∨ Off A2 q8 := .inr (hf2.off (off_none q8) (HK.out.lt 1 rfl))
                        have ho27 : N = 0 ∨ Off A2 q7 := .inr (hf2.off (off_none q7) (HK.out.lt 2 rfl))
                        replace hr1 := hr1.below hbb
                        replace HK := Lib.hid (HK.out.after hbb)
                        clear hbb hf2
                        go_simp
                        refine hK.out _ _ ?hsx96 (fun hN => ?restx96)
                        case hsx96 => (try dsimp only); with_reducible exact all02 HK.out
                        clear hK K hH
                        have hH := hN
                        clear hN
                        (try simp only [Act.put, List.setIfInBounds_toArray, List.set_cons_zero, List.set_cons_succ])
                        refine wpAnyH_ready (rs := [6]) (by kernel_rfl) (by simp) ?_
                        refine AllReadyH.cons (op_at rfl) (fun K hK => ?_) AllReadyH.nil
                        have S7 : Hid ((stc 0 (fun _ => 0) (.slice A1 N c1) 0 ⟨#[]⟩ 0 0).all (·.oneCell') = true) := Lib.hid (stc_one _ _ _ _ _ _ _ _ _)
                        refine step_store_row9 rfl 30 _ _ rfl q7 (stc 0 (fun _ => 0) (.slice A1 N c1) 0 ⟨#[]⟩ 0 0) (by rfl) (by rfl) 30 _ (HK.out.at 2 rfl) (infoS2 rfl) rfl S7.out ?_
                        replace HK := Lib.hid (HK.out.putRow 2 rfl (.inr hge7) (stc 0 (fun _ => 0) (.slice A1 N c1) 0 ⟨#[]⟩ 0 0))
                        replace hr1 := hr1.setRow0 ho17 (stc 0 (fun _ => 0) (.slice A1 N c1) 0 ⟨#[]⟩ 0 0)
                        replace hr2 := hr2.setRow0 ho27 (stc 0 (fun _ => 0) (.slice A1 N c1) 0 ⟨#[]⟩ 0 0)
                        refine hK.out _ _ ?hsx97 (fun hN => ?restx97)
                        case hsx97 => (try dsimp only); with_reducible exact all02 HK.out
                        clear hK K hH
                        have hH := hN
                        clear hN
                        simp only [Act.put]
                        refine wpAnyH_ready (rs := [7]) (by kernel_rfl) (by simp) ?_
                        refine AllReadyH.cons (op_at rfl) (fun K hK => ?_) AllReadyH.nil
                        have S8 : Hid ((stc 0 (fun _ => 0) (.slice A2 N c2) 0 ⟨#[]⟩ 0 0).all (·.oneCell') = true) := Lib.hid (stc_one _ _ _ _ _ _ _ _ _)
                        refine step_store_row9 rfl 30 _ _ rfl q8 (stc 0 (fun _ => 0) (.slice A2 N c2) 0 ⟨#[]⟩ 0 0) (by rfl) (by rfl) 30 _ (HK.out.at 1 rfl) (infoS2 rfl) rfl S8.out ?_
                        replace HK := Lib.hid (HK.out.putRow 1 rfl (.inr hge8) (stc 0 (fun _ => 0) (.slice A2 N c2) 0 ⟨#[]⟩ 0 0))
                        replace hr1 := hr1.setRow0 ho18 (stc 0 (fun _ => 0) (.slice A2 N c2) 0 ⟨#[]⟩ 0 0)
                        replace hr2 := hr2.setRow0 ho28 (stc 0 (fun _ => 0) (.slice A2 N c2) 0 ⟨#[]⟩ 0 0)
                        refine hK.out _ _ ?hsx98 (fun hN => ?restx98)
                        case hsx98 => (try dsimp only); with_reducible exact all02 HK.out
                        clear hK K hH
                        simp only [Act.put]
                        refine wpAnyH_done (by kernel_rfl) ?_ _
                        (go_wp2_with fail); go_meet; exact ⟨q7, q8, A1, A2, c1, c2, rfl, rfl, Lib.hid ⟨(HK.out.perm (List.Perm.cons _ (List.Perm.swap _ _ _))), hr1, hr2, ho17, ho18, ho27, ho28, ⟨h1a, h1b⟩, ⟨h2a, h2b⟩, hge7, hge8⟩⟩
                      case z95c =>
                        exact AllReadyH.nil
                    case z93c =>
                      exact AllReadyH.nil
                case z84c =>
                  refine AllReadyH.cons (op_at rfl) (fun K hK => ?z100) ?z100c
                  case z100 =>
                    go_simp
                    obtain ⟨q7, hq7⟩ : ∃ q, wa8.heap.size = q := ⟨_, rfl⟩
                    have hge7 : w.heap.size ≤ q7 := by rw [← hq7]; exact HK.out.be.size
                    replace HK := Lib.hid (HK.out.add q7 hq7 (.cells #[.int .i64 0, .int .u32 0, .int .u32 0, .int .u32 0, .int .u32 0, .int .u32 0, .int .u32 0, .int .u32 0, .int .u32 0, .int .u32 0, .int .u32 0, .int .u32 0, .int .u32 0, .int .u32 0, .int .u32 0, .int .u32 0, .int .u32 0, .slice none 0 0, .int .i64 0, .string ⟨#[]⟩, .int .i64 0, .int .i64 0] 30 (0, 0)))
                    obtain ⟨wa7, hwa7⟩ : ∃ W, wa8.alloc (.cells #[.int .i64 0, .int .u32 0, .int .u32 0, .int .u32 0, .int .u32 0, .int .u32 0, .int .u32 0, .int .u32 0, .int .u32 0, .int .u32 0, .int .u32 0, .int .u32 0, .int .u32 0, .int .u32 0, .int .u32 0, .int .u32 0, .int .u32 0, .slice none 0 0, .int .i64 0, .string ⟨#[]⟩, .int .i64 0, .int .i64 0] 30 (0, 0)) = W := ⟨_, rfl⟩
                    (try rw [hq7])
                    rw [hwa7] at HK ⊢
                    clear hwa7 hq7
                    refine hK.out _ _ ?hsx101 (fun hN => ?restx101)
                    case hsx101 => (try dsimp only); with_reducible exact all02 HK.out
                    clear hK K hH
                    have hH := hN
                    clear hN
                    (try simp only [Act.put, List.setIfInBounds_toArray, List.set_cons_zero, List.set_cons_succ])
                    refine wpAnyH_ready (rs := [1]) (by kernel_rfl) (by simp) ?_
                    refine AllReadyH.cons (op_at rfl) (fun K hK => ?z102) ?z102c
                    case z102 =>
                      go_simp
                      go_at_call 12
                      (with_reducible refine (start9 _).mono ?_)
                      rintro e wc1 ⟨A1, n1, c1, rfl, hr1, h1a, h1b, hf1, hbb⟩
                      obtain rfl : N = n1 := HN.out.symm.trans hr1.1
                      have ho18 : N = 0 ∨ Off A1 q8 := .inr (hf1.off (off_none q8) (HK.out.lt 1 rfl))
                      have ho17 : N = 0 ∨ Off A1 q7 := .inr (hf1.off (off_none q7) (HK.out.lt 2 rfl))
                      replace HK := Lib.hid (HK.out.after hbb)
                      clear hbb hf1
                      go_simp
                      refine hK.out _ _ ?hsx103 (fun hN => ?restx103)
                      case hsx103 => (try dsimp only); with_reducible exact all02 HK.out
                      clear hK K hH
                      have hH := hN
                      clear hN
                      (try simp only [Act.put, List.setIfInBounds_toArray, List.set_cons_zero, List.set_cons_succ])
                      refine wpAnyH_ready (rs := [3]) (by kernel_rfl) (by simp) ?_
                      refine AllReadyH.cons (op_at rfl) (fun K hK => ?z104) ?z104c
                      case z104 =>
                        go_simp
                        go_at_call 13
                        (with_reducible refine (start9_ref _).mono ?_)
                        rintro e wc2 ⟨A2, n2, c2, rfl, hr2, h2a, h2b, hf2, hbb⟩
                        obtain rfl : N = n2 := HN.out.symm.trans hr2.1
                        have ho28 : N = 0 ∨ Off A2 q8 := .inr (hf2.off (off_none q8) (HK.out.lt 1 rfl))
                        have ho27 : N = 0 ∨ Off A2 q7 := .inr (hf2.off (off_none q7) (HK.out.lt 2 rfl))
                        replace hr1 := hr1.below hbb
                        replace HK := Lib.hid (HK.out.after hbb)
                        clear hbb hf2
                        go_simp
                        refine hK.out _ _ ?hsx105 (fun hN => ?restx105)
                        case hsx105 => (try dsimp only); with_reducible exact all02 HK.out
                        clear hK K hH
                        have hH := hN
                        clear hN
                        (try simp only [Act.put, List.setIfInBounds_toArray, List.set_cons_zero, List.set_cons_succ])
                        refine wpAnyH_ready (rs := [6]) (by kernel_rfl) (by simp) ?_
                        refine AllReadyH.cons (op_at rfl) (fun K hK => ?_) AllReadyH.nil
                        have S7 : Hid ((stc 0 (fun _ => 0) (.slice A1 N c1) 0 ⟨#[]⟩ 0 0).all (·.oneCell') = true) := Lib.hid (stc_one _ _ _ _ _ _ _ _ _)
                        refine step_store_row9 rfl 30 _ _ rfl q7 (stc 0 (fun _ => 0) (.slice A1 N c1) 0 ⟨#[]⟩ 0 0) (by rfl) (by rfl) 30 _ (HK.out.at 2 rfl) (infoS2 rfl) rfl S7.out ?_
                        replace HK := Lib.hid (HK.out.putRow 2 rfl (.inr hge7) (stc 0 (fun _ => 0) (.slice A1 N c1) 0 ⟨#[]⟩ 0 0))
                        replace hr1 := hr1.setRow0 ho17 (stc 0 (fun _ => 0) (.slice A1 N c1) 0 ⟨#[]⟩ 0 0)
                        replace hr2 := hr2.setRow0 ho27 (stc 0 (fun _ => 0) (.slice A1 N c1) 0 ⟨#[]⟩ 0 0)
                        refine hK.out _ _ ?hsx106 (fun hN => ?restx106)
                        case hsx106 => (try dsimp only); with_reducible exact all02 HK.out
                        clear hK K hH
                        have hH := hN
                        clear hN
                        simp only [Act.put]
                        refine wpAnyH_ready (rs := [7]) (by kernel_rfl) (by simp) ?_
                        refine AllReadyH.cons (op_at rfl) (fun K hK => ?_) AllReadyH.nil
                        have S8 : Hid ((stc 0 (fun _ => 0) (.slice A2 N c2) 0 ⟨#[]⟩ 0 0).all (·.oneCell') = true) := Lib.hid (stc_one _ _ _ _ _ _ _ _ _)
                        refine step_store_row9 rfl 30 _ _ rfl q8 (stc 0 (fun _ => 0) (.slice A2 N c2) 0 ⟨#[]⟩ 0 0) (by rfl) (by rfl) 30 _ (HK.out.at 1 rfl) (infoS2 rfl) rfl S8.out ?_
                        replace HK := Lib.hid (HK.out.putRow 1 rfl (.inr hge8) (stc 0 (fun _ => 0) (.slice A2 N c2) 0 ⟨#[]⟩ 0 0))
                        replace hr1 := hr1.setRow0 ho18 (stc 0 (fun _ => 0) (.slice A2 N c2) 0 ⟨#[]⟩ 0 0)
                        replace hr2 := hr2.setRow0 ho28 (stc 0 (fun _ => 0) (.slice A2 N c2) 0 ⟨#[]⟩ 0 0)
                        refine hK.out _ _ ?hsx107 (fun hN => ?restx107)
                        case hsx107 => (try dsimp only); with_reducible exact all02 HK.out
                        clear hK K hH
                        simp only [Act.put]
                        refine wpAnyH_done (by kernel_rfl) ?_ _
                        (go_wp2_with fail); go_meet; exact ⟨q7, q8, A1, A2, c1, c2, rfl, rfl, Lib.hid ⟨(HK.out.perm (List.Perm.cons _ (List.Perm.swap _ _ _))), hr1, hr2, ho17, ho18, ho27, ho28, ⟨h1a, h1b⟩, ⟨h2a, h2b⟩, hge7, hge8⟩⟩
                      case z104c =>
                        exact AllReadyH.nil
                    case z102c =>
                      exact AllReadyH.nil
                  case z100c =>
                    exact AllReadyH.nil
              case z82c =>
                exact AllReadyH.nil
        case rest =>
          obtain ⟨q7, q8, A1, A2, c1, c2, rfl, rfl, HR⟩ := hcut
          clear HK
          go_wp2_with fail
          go_loopw [9] (fun s wr => ∃ (j : Nat) (A1 A2 : Option Addr) (c1 c2 : Nat), j ≤ r ∧ s = .int .i64 (j : Int) ∧ Hid (Rn w wr #[.slice B m k, .int .i64 d] q7 q8 N A1 A2 c1 c2 (run9 code inp d j))) (fun s _ => r - (intOf s).toNat)
          case atStart => exact ⟨0, _, _, _, _, Nat.zero_le _, rfl, HR⟩
          case round =>
            clear HR
            obtain ⟨j, A1, A2, c1, c2, hj, rfl, HR⟩ := hrel
            by_cases hlt : j < r
            · have i1 : (j : Int) < (r : Int) := by omega
              obtain ⟨x, hx⟩ : ∃ x, run9 code inp d j = x := ⟨_, rfl⟩
              have hok := ROK.out j
              have hy : run9 code inp d (j + 1) = nxt code inp x := by rw [← hx]; rfl
              rw [hx] at hok HR
              obtain ⟨y, ey⟩ : ∃ y, nxt code inp x = y := ⟨_, rfl⟩
              have s1 := fun (W : World) (hT : Tabs W) (hc : Rd W B m code) (hR : Rd W A1 N x.mem) => STC.out W A1 c1 x hT hc hR HR.out.b1 hok.1 ⟨hok.2.2.1, by omega⟩
              have s2 := fun (W : World) (hc : Rd W B m code) (hR : Rd W A2 N x.mem) => STR.out W A2 c2 x hc hR HR.out.b2 hok.1 ⟨hok.2.2.1, by omega⟩
              rw [ey] at s1 s2 hy
              have S1 := Lib.hid s1
              have S2 := Lib.hid s2
              have HY := Lib.hid hy
              have hrd : wr.cell? ⟨w.heap.size, 0, none⟩ = some (.slice B m k) := row_cell (HR.out.k.at 0 rfl) 0 rfl
              clear s1 s2 hy ey hx hok
              go_upto_region 7 with fail
              clear hrd
              replace HR := Lib.hid (HR.out.drewn)
              refine wp_region_held_drew (S := fun W => W.cell? ⟨w.heap.size, 0, none⟩ = some (.slice B m k) ∧ W.cell? ⟨w.heap.size, 1, none⟩ = some (.int .i64 d)) (by kernel_rfl) ?hsx109 (fun hH => ?restx109)
              case hsx109 => (try dsimp only); with_reducible exact all02 HR.out.k
              obtain ⟨w4, hw4⟩ : ∃ W, wr.drew = W := ⟨_, rfl⟩
              rw [hw4] at HR hH ⊢
              clear hw4
              have HR0 := HR
              have HBB := Lib.hid (Below.refl w4.heap.size w4)
              refine wpAnyH_take (i := 0) (v := ?vx111) (by exact op_at rfl) (by kernel_rfl) (by kernel_rfl) (by kernel_rfl) (by exact fun _ _ _ h => h) (Or.inl ⟨by rfl, ?hyx111⟩) hH ?restx111
              case hyx111 => (intro w' hSw; (try dsimp only at hSw); go_simp <;> with_reducible rfl)
              (try simp only [Act.put, List.setIfInBounds_toArray, List.set_cons_zero, List.set_cons_succ])
              refine wpAnyH_take (i := 1) (v := ?vx112) (by exact op_at rfl) (by kernel_rfl) (by kernel_rfl) (by kernel_rfl) (by exact fun _ _ _ h => h) (Or.inl ⟨by rfl, ?hyx112⟩) hH ?restx112
              case hyx112 => (intro w' hSw; (try dsimp only at hSw); go_simp <;> with_reducible rfl)
              (try simp only [Act.put, List.setIfInBounds_toArray, List.set_cons_zero, List.set_cons_succ])
              refine wpAnyH_take (i := 4) (v := ?vx113) (by exact op_at rfl) (by kernel_rfl) (by kernel_rfl) (by kernel_rfl) (by exact fun _ _ _ h => h) (Or.inl ⟨by rfl, ?hyx113⟩) hH ?restx113
              case hyx113 => (intro w' hSw; (try dsimp only at hSw); go_simp <;> with_reducible rfl)
              (try simp only [Act.put, List.setIfInBounds_toArray, List.set_cons_zero, List.set_cons_succ])
              refine wpAnyH_take (i := 5) (v := ?vx114) (by exact op_at rfl) (by kernel_rfl) (by kernel_rfl) (by kernel_rfl) (by exact fun _ _ _ h => h) (Or.inl ⟨by rfl, ?hyx114⟩) hH ?restx114
              case hyx114 => (intro w' hSw; (try dsimp only at hSw); go_simp <;> with_reducible rfl)
              (try simp only [Act.put, List.setIfInBounds_toArray, List.set_cons_zero, List.set_cons_succ])
              refine wpAnyH_ready (rs := [2, 6]) (by kernel_rfl) (by simp) ?_
              refine AllReadyH.cons (op_at rfl) (fun K hK => ?z115) ?z115c
              case z115 =>
                refine step_load_row9 rfl 30 _ rfl q7 (by rfl) 30 _ _ _ (HR.out.k.at 1 rfl) Tryd.underlying30 rfl (infoS2 rfl) ?_
                refine hK.out _ _ ?hsx116 (fun hN => ?restx116)
                case hsx116 => (try dsimp only); with_reducible exact all02 HR.out.k
                clear hK K hH
                have hH := hN
                clear hN
                (try simp only [Act.put, List.setIfInBounds_toArray, List.set_cons_zero, List.set_cons_succ])
                refine wpAnyH_ready (rs := [3, 6]) (by kernel_rfl) (by simp) ?_
                refine AllReadyH.cons (op_at rfl) (fun K hK => ?z117) ?z117c
                case z117 =>
                  go_simp
                  go_at_call 15
                  (with_reducible refine (S1.out _ (HT.out.below HR.out.k.be.plain) (HM.out.2.2.1.below HR.out.k.be.plain) HR.out.r1).mono ?_)
                  rintro e wc1 ⟨v1, rfl, ⟨B1, e1, rfl, hr1, h1a, h1b, hf1⟩, hbb⟩
                  replace hf1 := hf1.mono HBB.out.size
                  replace HR := Lib.hid (HR.out.after hbb)
                  replace HBB := Lib.hid (HBB.out.trans (hbb.mono HBB.out.size))
                  clear hbb
                  go_simp
                  refine hK.out _ _ ?hsx118 (fun hN => ?restx118)
                  case hsx118 => (try dsimp only); with_reducible exact all02 HR.out.k
                  clear hK K hH
                  have hH := hN
                  clear hN
                  (try simp only [Act.put, List.setIfInBounds_toArray, List.set_cons_zero, List.set_cons_succ])
                  refine wpAnyH_ready (rs := [6]) (by kernel_rfl) (by simp) ?_
                  refine AllReadyH.cons (op_at rfl) (fun K hK => ?z119) ?z119c
                  case z119 =>
                    refine step_load_row9 rfl 30 _ rfl q8 (by rfl) 30 _ _ _ (HR.out.k.at 2 rfl) Tryd.underlying30 rfl (infoS2 rfl) ?_
                    refine hK.out _ _ ?hsx120 (fun hN => ?restx120)
                    case hsx120 => (try dsimp only); with_reducible exact all02 HR.out.k
                    clear hK K hH
                    have hH := hN
                    clear hN
                    (try simp only [Act.put, List.setIfInBounds_toArray, List.set_cons_zero, List.set_cons_succ])
                    refine wpAnyH_ready (rs := [7]) (by kernel_rfl) (by simp) ?_
                    refine AllReadyH.cons (op_at rfl) (fun K hK => ?z121) ?z121c
                    case z121 =>
                      go_simp
                      go_at_call 16
                      (with_reducible refine (S2.out _ (HM.out.2.2.1.below HR.out.k.be.plain) HR.out.r2).mono ?_)
                      rintro e wc2 ⟨v2, rfl, ⟨B2, e2, rfl, hr2, h2a, h2b, hf2⟩, hbb⟩
                      replace hf2 := hf2.mono HBB.out.size
                      replace hr1 := hr1.below hbb
                      replace HR := Lib.hid (HR.out.after hbb)
                      replace HBB := Lib.hid (HBB.out.trans (hbb.mono HBB.out.size))
                      clear hbb
                      go_simp
                      refine hK.out _ _ ?hsx122 (fun hN => ?restx122)
                      case hsx122 => (try dsimp only); with_reducible exact all02 HR.out.k
                      clear hK K hH
                      have hH := hN
                      clear hN
                      (try simp only [Act.put, List.setIfInBounds_toArray, List.set_cons_zero, List.set_cons_succ])
                      have HF := Lib.hid (HR0.out.next HBB.out hr1 hr2 hf1 hf2 ⟨h1a, h1b⟩ ⟨h2a, h2b⟩)
                      have HKA := Lib.hid (HR.out.k.putRow 1 rfl (.inr HR.out.g7) (stc y.pc y.g (.slice B1 N e1) y.rd y.out y.st y.en))
                      refine wpAnyH_ready (rs := [8]) (by kernel_rfl) (by simp) ?_
                      refine AllReadyH.cons (op_at rfl) (fun K hK => ?_) AllReadyH.nil
                      have SS7 : Hid ((stc y.pc y.g (.slice B1 N e1) y.rd y.out y.st y.en).all (·.oneCell') = true) := Lib.hid (stc_one _ _ _ _ _ _ _ _ _)
                      refine step_store_row9 rfl 30 _ _ rfl q7 (stc y.pc y.g (.slice B1 N e1) y.rd y.out y.st y.en) (by rfl) (by rfl) 30 _ (HR.out.k.at 1 rfl) (infoS2 rfl) rfl SS7.out ?_
                      refine hK.out _ _ ?hsx124 (fun hN => ?restx124)
                      case hsx124 => (try dsimp only); with_reducible exact all02 HKA.out
                      clear hK K hH
                      have hH := hN
                      clear hN
                      simp only [Act.put]
                      refine wpAnyH_ready (rs := [9]) (by kernel_rfl) (by simp) ?_
                      refine AllReadyH.cons (op_at rfl) (fun K hK => ?_) AllReadyH.nil
                      have SS8 : Hid ((stc y.pc y.g (.slice B2 N e2) y.rd y.out y.st y.en).all (·.oneCell') = true) := Lib.hid (stc_one _ _ _ _ _ _ _ _ _)
                      refine step_store_row9 rfl 30 _ _ rfl q8 (stc y.pc y.g (.slice B2 N e2) y.rd y.out y.st y.en) (by rfl) (by rfl) 30 _ (HKA.out.at 2 rfl) (infoS2 rfl) rfl SS8.out ?_
                      refine hK.out _ _ ?hsx125 (fun hN => ?restx125)
                      case hsx125 => (try dsimp only); with_reducible exact all02 HF.out.k
                      clear hK K hH
                      simp only [Act.put]
                      refine wpAnyH_done (by kernel_rfl) ?_ _
                      obtain ⟨WF, hWF⟩ : ∃ W, (wc2.setRow q7 (stc y.pc y.g (.slice B1 N e1) y.rd y.out y.st y.en)).setRow q8 (stc y.pc y.g (.slice B2 N e2) y.rd y.out y.st y.en) = W := ⟨_, rfl⟩
                      rw [hWF] at HF ⊢
                      clear hWF HR HR0 HBB HKA hr1 hr2 hf1 hf2
                      have g7 := Lib.hid (HF.out.k.at 1 rfl)
                      have g8 := Lib.hid (HF.out.k.at 2 rfl)
                      go_upto_region 8 with fail
                      go_wp2_with (first
                        | (refine wpList_load_row rfl 30 _ rfl _ rfl 30 _ _ _ g7.out Tryd.underlying30 rfl (infoS2 rfl) ?_)
                        | (refine wpList_load_row rfl 30 _ rfl _ rfl 30 _ _ _ g8.out Tryd.underlying30 rfl (infoS2 rfl) ?_)
                        | fail)
                      refine (CQ.out _ _ _ _ _ _ HF.out.r1 HF.out.r2).mono ?_
                      rintro e wq ⟨rfl, hbq⟩
                      replace HF := Lib.hid (HF.out.after hbq)
                      clear hbq g7 g8
                      go_wp2_with fail
                      go_roundw
                      case rel => exact ⟨j + 1, B1, B2, e1, e2, by omega, by go_num, by rw [HY.out]; exact HF⟩
                      case measure => simp [intOf]; omega
                    case z121c =>
                      exact AllReadyH.nil
                  case z119c =>
                    exact AllReadyH.nil
                case z117c =>
                  refine AllReadyH.cons (op_at rfl) (fun K hK => ?z127) ?z127c
                  case z127 =>
                    refine step_load_row9 rfl 30 _ rfl q8 (by rfl) 30 _ _ _ (HR.out.k.at 2 rfl) Tryd.underlying30 rfl (infoS2 rfl) ?_
                    refine hK.out _ _ ?hsx128 (fun hN => ?restx128)
                    case hsx128 => (try dsimp only); with_reducible exact all02 HR.out.k
                    clear hK K hH
                    have hH := hN
                    clear hN
                    (try simp only [Act.put, List.setIfInBounds_toArray, List.set_cons_zero, List.set_cons_succ])
                    refine wpAnyH_ready (rs := [3]) (by kernel_rfl) (by simp) ?_
                    refine AllReadyH.cons (op_at rfl) (fun K hK => ?z129) ?z129c
                    case z129 =>
                      go_simp
                      go_at_call 15
                      (with_reducible refine (S1.out _ (HT.out.below HR.out.k.be.plain) (HM.out.2.2.1.below HR.out.k.be.plain) HR.out.r1).mono ?_)
                      rintro e wc1 ⟨v1, rfl, ⟨B1, e1, rfl, hr1, h1a, h1b, hf1⟩, hbb⟩
                      replace hf1 := hf1.mono HBB.out.size
                      replace HR := Lib.hid (HR.out.after hbb)
                      replace HBB := Lib.hid (HBB.out.trans (hbb.mono HBB.out.size))
                      clear hbb
                      go_simp
                      refine hK.out _ _ ?hsx130 (fun hN => ?restx130)
                      case hsx130 => (try dsimp only); with_reducible exact all02 HR.out.k
                      clear hK K hH
                      have hH := hN
                      clear hN
                      (try simp only [Act.put, List.setIfInBounds_toArray, List.set_cons_zero, List.set_cons_succ])
                      refine wpAnyH_ready (rs := [7]) (by kernel_rfl) (by simp) ?_
                      refine AllReadyH.cons (op_at rfl) (fun K hK => ?z131) ?z131c
                      case z131 =>
                        go_simp
                        go_at_call 16
                        (with_reducible refine (S2.out _ (HM.out.2.2.1.below HR.out.k.be.plain) HR.out.r2).mono ?_)
                        rintro e wc2 ⟨v2, rfl, ⟨B2, e2, rfl, hr2, h2a, h2b, hf2⟩, hbb⟩
                        replace hf2 := hf2.mono HBB.out.size
                        replace hr1 := hr1.below hbb
                        replace HR := Lib.hid (HR.out.after hbb)
                        replace HBB := Lib.hid (HBB.out.trans (hbb.mono HBB.out.size))
                        clear hbb
                        go_simp
                        refine hK.out _ _ ?hsx132 (fun hN => ?restx132)
                        case hsx132 => (try dsimp only); with_reducible exact all02 HR.out.k
                        clear hK K hH
                        have hH := hN
                        clear hN
                        (try simp only [Act.put, List.setIfInBounds_toArray, List.set_cons_zero, List.set_cons_succ])
                        have HF := Lib.hid (HR0.out.next HBB.out hr1 hr2 hf1 hf2 ⟨h1a, h1b⟩ ⟨h2a, h2b⟩)
                        have HKA := Lib.hid (HR.out.k.putRow 1 rfl (.inr HR.out.g7) (stc y.pc y.g (.slice B1 N e1) y.rd y.out y.st y.en))
                        refine wpAnyH_ready (rs := [8]) (by kernel_rfl) (by simp) ?_
                        refine AllReadyH.cons (op_at rfl) (fun K hK => ?_) AllReadyH.nil
                        have SS7 : Hid ((stc y.pc y.g (.slice B1 N e1) y.rd y.out y.st y.en).all (·.oneCell') = true) := Lib.hid (stc_one _ _ _ _ _ _ _ _ _)
                        refine step_store_row9 rfl 30 _ _ rfl q7 (stc y.pc y.g (.slice B1 N e1) y.rd y.out y.st y.en) (by rfl) (by rfl) 30 _ (HR.out.k.at 1 rfl) (infoS2 rfl) rfl SS7.out ?_
                        refine hK.out _ _ ?hsx134 (fun hN => ?restx134)
                        case hsx134 => (try dsimp only); with_reducible exact all02 HKA.out
                        clear hK K hH
                        have hH := hN
                        clear hN
                        simp only [Act.put]
                        refine wpAnyH_ready (rs := [9]) (by kernel_rfl) (by simp) ?_
                        refine AllReadyH.cons (op_at rfl) (fun K hK => ?_) AllReadyH.nil
                        have SS8 : Hid ((stc y.pc y.g (.slice B2 N e2) y.rd y.out y.st y.en).all (·.oneCell') = true) := Lib.hid (stc_one _ _ _ _ _ _ _ _ _)
                        refine step_store_row9 rfl 30 _ _ rfl q8 (stc y.pc y.g (.slice B2 N e2) y.rd y.out y.st y.en) (by rfl) (by rfl) 30 _ (HKA.out.at 2 rfl) (infoS2 rfl) rfl SS8.out ?_
                        refine hK.out _ _ ?hsx135 (fun hN => ?restx135)
                        case hsx135 => (try dsimp only); with_reducible exact all02 HF.out.k
                        clear hK K hH
                        simp only [Act.put]
                        refine wpAnyH_done (by kernel_rfl) ?_ _
                        obtain ⟨WF, hWF⟩ : ∃ W, (wc2.setRow q7 (stc y.pc y.g (.slice B1 N e1) y.rd y.out y.st y.en)).setRow q8 (stc y.pc y.g (.slice B2 N e2) y.rd y.out y.st y.en) = W := ⟨_, rfl⟩
                        rw [hWF] at HF ⊢
                        clear hWF HR HR0 HBB HKA hr1 hr2 hf1 hf2
                        have g7 := Lib.hid (HF.out.k.at 1 rfl)
                        have g8 := Lib.hid (HF.out.k.at 2 rfl)
                        go_upto_region 8 with fail
                        go_wp2_with (first
                          | (refine wpList_load_row rfl 30 _ rfl _ rfl 30 _ _ _ g7.out Tryd.underlying30 rfl (infoS2 rfl) ?_)
                          | (refine wpList_load_row rfl 30 _ rfl _ rfl 30 _ _ _ g8.out Tryd.underlying30 rfl (infoS2 rfl) ?_)
                          | fail)
                        refine (CQ.out _ _ _ _ _ _ HF.out.r1 HF.out.r2).mono ?_
                        rintro e wq ⟨rfl, hbq⟩
                        replace HF := Lib.hid (HF.out.after hbq)
                        clear hbq g7 g8
                        go_wp2_with fail
                        go_roundw
                        case rel => exact ⟨j + 1, B1, B2, e1, e2, by omega, by go_num, by rw [HY.out]; exact HF⟩
                        case measure => simp [intOf]; omega
                      case z131c =>
                        exact AllReadyH.nil
                    case z129c =>
                      exact AllReadyH.nil
                  case z127c =>
                    exact AllReadyH.nil
              case z115c =>
                refine AllReadyH.cons (op_at rfl) (fun K hK => ?z137) ?z137c
                case z137 =>
                  refine step_load_row9 rfl 30 _ rfl q8 (by rfl) 30 _ _ _ (HR.out.k.at 2 rfl) Tryd.underlying30 rfl (infoS2 rfl) ?_
                  refine hK.out _ _ ?hsx138 (fun hN => ?restx138)
                  case hsx138 => (try dsimp only); with_reducible exact all02 HR.out.k
                  clear hK K hH
                  have hH := hN
                  clear hN
                  (try simp only [Act.put, List.setIfInBounds_toArray, List.set_cons_zero, List.set_cons_succ])
                  refine wpAnyH_ready (rs := [2]) (by kernel_rfl) (by simp) ?_
                  refine AllReadyH.cons (op_at rfl) (fun K hK => ?z139) ?z139c
                  case z139 =>
                    refine step_load_row9 rfl 30 _ rfl q7 (by rfl) 30 _ _ _ (HR.out.k.at 1 rfl) Tryd.underlying30 rfl (infoS2 rfl) ?_
                    refine hK.out _ _ ?hsx140 (fun hN => ?restx140)
                    case hsx140 => (try dsimp only); with_reducible exact all02 HR.out.k
                    clear hK K hH
                    have hH := hN
                    clear hN
                    (try simp only [Act.put, List.setIfInBounds_toArray, List.set_cons_zero, List.set_cons_succ])
                    refine wpAnyH_ready (rs := [3]) (by kernel_rfl) (by simp) ?_
                    refine AllReadyH.cons (op_at rfl) (fun K hK => ?z141) ?z141c
                    case z141 =>
                      go_simp
                      go_at_call 15
                      (with_reducible refine (S1.out _ (HT.out.below HR.out.k.be.plain) (HM.out.2.2.1.below HR.out.k.be.plain) HR.out.r1).mono ?_)
                      rintro e wc1 ⟨v1, rfl, ⟨B1, e1, rfl, hr1, h1a, h1b, hf1⟩, hbb⟩
                      replace hf1 := hf1.mono HBB.out.size
                      replace HR := Lib.hid (HR.out.after hbb)
                      replace HBB := Lib.hid (HBB.out.trans (hbb.mono HBB.out.size))
                      clear hbb
                      go_simp
                      refine hK.out _ _ ?hsx142 (fun hN => ?restx142)
                      case hsx142 => (try dsimp only); with_reducible exact all02 HR.out.k
                      clear hK K hH
                      have hH := hN
                      clear hN
                      (try simp only [Act.put, List.setIfInBounds_toArray, List.set_cons_zero, List.set_cons_succ])
                      refine wpAnyH_ready (rs := [7]) (by kernel_rfl) (by simp) ?_
                      refine AllReadyH.cons (op_at rfl) (fun K hK => ?z143) ?z143c
                      case z143 =>
                        go_simp
                        go_at_call 16
                        (with_reducible refine (S2.out _ (HM.out.2.2.1.below HR.out.k.be.plain) HR.out.r2).mono ?_)
                        rintro e wc2 ⟨v2, rfl, ⟨B2, e2, rfl, hr2, h2a, h2b, hf2⟩, hbb⟩
                        replace hf2 := hf2.mono HBB.out.size
                        replace hr1 := hr1.below hbb
                        replace HR := Lib.hid (HR.out.after hbb)
                        replace HBB := Lib.hid (HBB.out.trans (hbb.mono HBB.out.size))
                        clear hbb
                        go_simp
                        refine hK.out _ _ ?hsx144 (fun hN => ?restx144)
                        case hsx144 => (try dsimp only); with_reducible exact all02 HR.out.k
                        clear hK K hH
                        have hH := hN
                        clear hN
                        (try simp only [Act.put, List.setIfInBounds_toArray, List.set_cons_zero, List.set_cons_succ])
                        have HF := Lib.hid (HR0.out.next HBB.out hr1 hr2 hf1 hf2 ⟨h1a, h1b⟩ ⟨h2a, h2b⟩)
                        have HKA := Lib.hid (HR.out.k.putRow 1 rfl (.inr HR.out.g7) (stc y.pc y.g (.slice B1 N e1) y.rd y.out y.st y.en))
                        refine wpAnyH_ready (rs := [8]) (by kernel_rfl) (by simp) ?_
                        refine AllReadyH.cons (op_at rfl) (fun K hK => ?_) AllReadyH.nil
                        have SS7 : Hid ((stc y.pc y.g (.slice B1 N e1) y.rd y.out y.st y.en).all (·.oneCell') = true) := Lib.hid (stc_one _ _ _ _ _ _ _ _ _)
                        refine step_store_row9 rfl 30 _ _ rfl q7 (stc y.pc y.g (.slice B1 N e1) y.rd y.out y.st y.en) (by rfl) (by rfl) 30 _ (HR.out.k.at 1 rfl) (infoS2 rfl) rfl SS7.out ?_
                        refine hK.out _ _ ?hsx146 (fun hN => ?restx146)
                        case hsx146 => (try dsimp only); with_reducible exact all02 HKA.out
                        clear hK K hH
                        have hH := hN
                        clear hN
                        simp only [Act.put]
                        refine wpAnyH_ready (rs := [9]) (by kernel_rfl) (by simp) ?_
                        refine AllReadyH.cons (op_at rfl) (fun K hK => ?_) AllReadyH.nil
                        have SS8 : Hid ((stc y.pc y.g (.slice B2 N e2) y.rd y.out y.st y.en).all (·.oneCell') = true) := Lib.hid (stc_one _ _ _ _ _ _ _ _ _)
                        refine step_store_row9 rfl 30 _ _ rfl q8 (stc y.pc y.g (.slice B2 N e2) y.rd y.out y.st y.en) (by rfl) (by rfl) 30 _ (HKA.out.at 2 rfl) (infoS2 rfl) rfl SS8.out ?_
                        refine hK.out _ _ ?hsx147 (fun hN => ?restx147)
                        case hsx147 => (try dsimp only); with_reducible exact all02 HF.out.k
                        clear hK K hH
                        simp only [Act.put]
                        refine wpAnyH_done (by kernel_rfl) ?_ _
                        obtain ⟨WF, hWF⟩ : ∃ W, (wc2.setRow q7 (stc y.pc y.g (.slice B1 N e1) y.rd y.out y.st y.en)).setRow q8 (stc y.pc y.g (.slice B2 N e2) y.rd y.out y.st y.en) = W := ⟨_, rfl⟩
                        rw [hWF] at HF ⊢
                        clear hWF HR HR0 HBB HKA hr1 hr2 hf1 hf2
                        have g7 := Lib.hid (HF.out.k.at 1 rfl)
                        have g8 := Lib.hid (HF.out.k.at 2 rfl)
                        go_upto_region 8 with fail
                        go_wp2_with (first
                          | (refine wpList_load_row rfl 30 _ rfl _ rfl 30 _ _ _ g7.out Tryd.underlying30 rfl (infoS2 rfl) ?_)
                          | (refine wpList_load_row rfl 30 _ rfl _ rfl 30 _ _ _ g8.out Tryd.underlying30 rfl (infoS2 rfl) ?_)
                          | fail)
                        refine (CQ.out _ _ _ _ _ _ HF.out.r1 HF.out.r2).mono ?_
                        rintro e wq ⟨rfl, hbq⟩
                        replace HF := Lib.hid (HF.out.after hbq)
                        clear hbq g7 g8
                        go_wp2_with fail
                        go_roundw
                        case rel => exact ⟨j + 1, B1, B2, e1, e2, by omega, by go_num, by rw [HY.out]; exact HF⟩
                        case measure => simp [intOf]; omega
                      case z143c =>
                        exact AllReadyH.nil
                    case z141c =>
                      exact AllReadyH.nil
                  case z139c =>
                    exact AllReadyH.nil
                case z137c =>
                  exact AllReadyH.nil
            · obtain rfl : j = r := by omega
              have i1 : ¬ (j : Int) < (j : Int) := by omega
              go_wp2_with fail
              refine (awake9 _ (HT.out.below HR.out.k.be.plain)).mono ?_
              rintro e w2 ⟨rfl, hb⟩
              replace HR := Lib.hid (HR.out.after hb)
              go_wp2_with fail
              go_ret
              exact ⟨rfl, HR.out.k.be.plain⟩
      · have e0 : decide ((200 : Int) < (m : Int)) = false := decide_eq_false (by omega)
        have e1 : decide ((200 : Int) < (inp.size : Int)) = false := decide_eq_false (by omega)
        have e2 : decide ((200 : Int) < d) = true := decide_eq_true (by omega)
        clear h0 h1 h2
        go_enter Tryd.func5, Tryd.ntmps5
        go_wp2_with fail
        refine (awake9 _ (HT.out.below HK.out.be.plain)).mono ?_
        rintro e w2 ⟨rfl, hb⟩
        replace HK := Lib.hid (HK.out.after hb)
        clear hb
        go_wp2_with fail
        go_ret
        exact ⟨rfl, HK.out.be.plain⟩
    · have e0 : decide ((200 : Int) < (m : Int)) = false := decide_eq_false (by omega)
      have e1 : decide ((200 : Int) < (inp.size : Int)) = true := decide_eq_true (by omega)
      clear h0 h1
      go_enter Tryd.func5, Tryd.ntmps5
      go_wp2_with fail
      refine (awake9 _ (HT.out.below HK.out.be.plain)).mono ?_
      rintro e w2 ⟨rfl, hb⟩
      replace HK := Lib.hid (HK.out.after hb)
      clear hb
      go_wp2_with fail
      go_ret
      exact ⟨rfl, HK.out.be.plain⟩
  · have e0 : decide ((200 : Int) < (m : Int)) = true := decide_eq_true (by omega)
    clear h0
    go_enter Tryd.func5, Tryd.ntmps5
    go_wp2_with fail
    refine (awake9 _ (HT.out.below HK.out.be.plain)).mono ?_
    rintro e w2 ⟨rfl, hb⟩
    replace HK := Lib.hid (HK.out.after hb)
    clear hb
    go_wp2_with fail
    go_ret
    exact ⟨rfl, HK.out.be.plain⟩

set_option maxRecDepth 100000 in
theorem contract (H : Type) (enc : TypeId × Value → H) (W : World) (base : Nat) (args : Array Value) (ds gs : List (DataW H)) (before : List MemPlace)
    (hval : ∀ (j : Nat) t v, Tryd.f5.params[j]? = some t → args[j]? = some v → Value.okWide Tryd.prog W .any base t v)
    (hW : DataW.Whole enc Tryd.prog Tryd.f5.params.toList Rows.machineRunsSpec.vars false W args.toList ds gs before) (hL : laidMetH Tryd.prog Rows.machineRunsRow.laid W) :
    Calls Tryd.prog 5 args W fun e W' => ∃ v, e = .returned v ∧ Rows.machineRunsSpec.post enc Tryd.prog Tryd.f5 false true false false W args v W' := by
  have hW' := hW
  obtain ⟨p, q, hA0, hV, rfl, hfz, hnd⟩ := hW
  have hA : DataW.TrodAll enc Tryd.prog W 0 (fun _ => true) true Tryd.f5.params.toList args.toList ds p := hA0
  rw [Tryd.params5] at hA hval
  obtain ⟨v0, vs0, d0, ds0, p0, q0, hargs, rfl, rfl, h0, r0⟩ := trodAll_cons hA
  obtain ⟨v1, vs1, d1, ds1, p1, q1, rfl, rfl, rfl, h1, r1⟩ := trodAll_cons r0
  obtain ⟨v2, vs2, d2, ds2, p2, q2, rfl, rfl, rfl, h2, r2⟩ := trodAll_cons r1
  obtain ⟨rfl, rfl, rfl⟩ := trodAll_nil r2
  obtain rfl : args = #[v0, v1, v2] := by cases args; simp_all
  obtain ⟨rfl, rfl⟩ := trodVars_none hV
  have lt0 : ∀ x ∈ p0, x.block < W.heap.size := by obtain ⟨m, hm⟩ := h0; exact DataW.trod_lt m _ _ _ hm
  obtain ⟨A0, n0, c0, l0, a0, rfl, hM0, w0⟩ := open_img (hval 0 24 v0 rfl rfl) h0
  have lt1 : ∀ x ∈ p1, x.block < W.heap.size := by obtain ⟨m, hm⟩ := h1; exact DataW.trod_lt m _ _ _ hm
  have k1 := h1
  obtain ⟨a1, rfl, _, _, w1⟩ := open_string Tryd.underlying9 (hval 1 9 v1 rfl rfl) k1
  have lt2 : ∀ x ∈ p2, x.block < W.heap.size := by obtain ⟨m, hm⟩ := h2; exact DataW.trod_lt m _ _ _ hm
  have k2 := h2
  obtain ⟨a2, rfl, _, _, w2⟩ := open_int Tryd.underlying5 (hval 2 5 v2 rfl rfl) k2
  clear hA0
  refine (walk  W hM0 (by have := bounds_u8 w2; omega) (tabs_of hL)).mono fun e W' ⟨he, bel⟩ => ?_
  subst he
  exact ⟨_, rfl, _, _, _, [], _, [], hW', trodAll_mk1 (shut_bool Tryd.underlying4 _), (trodAll_cons_mk (Below.trod laidOut (by kernel_rfl) (of_decide_eq_true (by kernel_rfl)) h0 bel lt0) (trodAll_cons_mk (Below.trod laidOut (by kernel_rfl) (of_decide_eq_true (by kernel_rfl)) h1 bel lt1) (trodAll_cons_mk (Below.trod laidOut (by kernel_rfl) (of_decide_eq_true (by kernel_rfl)) h2 bel lt2) trodAll_mk0))), rfl, bel.frame _, fun h => by cases h⟩

theorem laid_met (os : Os) : laidMet Tryd.prog Rows.machineRunsRow.laid ((laidWorld os).forCall (fun _ _ => 0) ⟨#[], #[.agg #[.slice none 0 0, .int .i64 0], .string ByteArray.empty, .int .u8 0], []⟩).memory :=
  laidMet_of_run' 8 (by kernel_rfl) (by kernel_rfl)
theorem reads (os : Os) {H : Type} (enc : TypeId × Value → H) : ∃ places, DataW.whole enc Tryd.prog ((laidWorld os).forCall (fun _ _ => 0) ⟨#[], #[.agg #[.slice none 0 0, .int .i64 0], .string ByteArray.empty, .int .u8 0], []⟩).memory Tryd.f5.params.toList Rows.machineRunsSpec.vars false (#[.agg #[.slice none 0 0, .int .i64 0], .string ByteArray.empty, .int .u8 0] : Array Value).toList 8 = some ([.agg [.nil, .lit (.int .i64 0)], .lit (.string []), .lit (.int .u8 0)], [], places) :=
  ⟨[], by kernel_rfl⟩

set_option maxRecDepth 100000 in
theorem lifted (os : Os) (started : os.Started) (H : Type) (enc : TypeId × Value → H) (F : Stop.Interp) :
    ReturnsInHanded {} Tryd.checked os 5 .any ((OpenSpec.ofChange Rows.machineRunsSpec).preRow enc Tryd.prog Tryd.f5 Rows.machineRunsRow.domain false Rows.machineRunsRow.laid) (((OpenSpec.ofChange Rows.machineRunsSpec).at F).post enc Tryd.prog Tryd.f5 false true false false) := by
  obtain ⟨places, hx⟩ := reads os enc
  refine returnsInHanded_of_row (C := Tryd.checked) (s := OpenSpec.ofChange Rows.machineRunsSpec) own started (by kernel_rfl) Tryd.func5
    (witness_row_at (enc := enc) (C := Tryd.checked) false (laidWorld os) #[.agg #[.slice none 0 0, .int .i64 0], .string ByteArray.empty, .int .u8 0] rfl (by kernel_rfl) (by kernel_rfl) (by kernel_rfl)
      (OpenSpec.preRow_of_cond 8 hx (by kernel_rfl) (fun k hk => by cases hk) (by kernel_rfl) (laid_met os))) ?_
  intro W base args ds gs before hval hW _ _ _ hL _ _
  exact contract H enc W base args ds gs before hval hW hL

theorem said : Rows.MachineRunsSaid :=
  OpenClaim.holds_of_cond 5 Tryd.f5 rfl rfl rfl rfl rfl rfl rfl ⟨rfl, rfl, rfl, rfl, rfl⟩ rfl rfl rfl rfl rfl (by kernel_rfl) Tryd.func5 (by kernel_rfl)
    (of_decide_eq_true (by kernel_rfl)) (by unfold Func.isWrapper; first | (rw [if_pos (by decide +kernel)]; kernel_rfl) | (rw [if_neg (by decide +kernel)]; exact ⟨rfl, rfl⟩))
    (fun os started H enc _ F => by rw [OpenClaim.pre_eq_preRow]; exact lifted os started H enc F)

theorem plain (f : FuncId) (fn : Func) (hf : Tryd.pinned.checked.prog.funcNamed "seedcorn/seedcornlaw09.MachineRuns" = some f) (hfn : Tryd.pinned.checked.prog.funcs[f]? = some fn) :
    false = Tryd.pinned.checked.prog.looks [] ∧ ∀ (j : Nat) t, fn.params[j]? = some t → Tryd.pinned.checked.prog.wantsStandIn t = false := by
  obtain rfl : f = 5 := Option.some.inj ((show Tryd.prog.funcNamed "seedcorn/seedcornlaw09.MachineRuns" = some 5 by kernel_rfl).symm.trans hf) |>.symm
  obtain rfl : fn = Tryd.f5 := (Option.some.inj (Tryd.func5.symm.trans hfn)).symm
  refine ⟨by kernel_rfl, fun j t ht => ?_⟩
  rw [Tryd.params5] at ht
  have hm := Array.mem_of_getElem? ht
  have hm' : t = 24 ∨ t = 9 ∨ t = 5 := by simpa using hm
  rcases hm' with rfl | rfl | rfl
  · exact (show Tryd.prog.wantsStandIn 24 = false by kernel_rfl)
  · exact (show Tryd.prog.wantsStandIn 9 = false by kernel_rfl)
  · exact (show Tryd.prog.wantsStandIn 5 = false by kernel_rfl)

/-- The card. -/
theorem card : Rows.MachineRunsCardSaid :=
  Claim7.holds_tied_plain_at .later [] _ _ _ _ said (fun _ h => by cases h) (by kernel_rfl) (fun _ h => by cases h) machineRuns_row_tie rfl ⟨rfl, rfl⟩ (by kernel_rfl) rfl plain (by kernel_rfl)
end Go.Proofs.YtgojpflkhnaedaaDoor.machineRuns
