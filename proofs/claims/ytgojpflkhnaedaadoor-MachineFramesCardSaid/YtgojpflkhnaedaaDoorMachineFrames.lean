/- The law MachineFrames, its tables laid: for every image, input and state. No condition. -/
import Derived.Deep.DeepCutAuto
import Derived.Test.YtgojpflkhnaedaaDoorMchQ
import Derived.Test.YtgojpflkhnaedaaDoorMchP
import Derived.Test.YtgojpflkhnaedaaDoorMchW
import Derived.Test.YtgojpflkhnaedaaDoorMchT
import Derived.Test.YtgojpflkhnaedaaDoorMchV
namespace Go.Proofs.YtgojpflkhnaedaaDoor.machineFrames
open Go.ChangeShapes Go.WideShapes Go.ChangeAt Go.RowKit
open Go.ChangeMaps (open_string shut_string)
set_option linter.unusedVariables false

set_option maxRecDepth 100000 in
set_option maxHeartbeats 4000000 in
theorem walk {A B : Option Addr} {n c m k : Nat} {code : List Int} {d : Int} {inp : ByteArray} {x : Mst} (w : World) (hM : m ≤ k ∧ k ≤ maxLen ∧ Rd w B m code ∧ W32s code) (hS : StOk w A n c x) (ht : Tabs w) :
    Calls Tryd.prog 7 #[.agg (asr B m k d inp (stc x.pc x.g (.slice A n c) x.rd x.out x.st x.en))] w fun e w' => e = .returned (.bool true) ∧ Below w.heap.size w w' := by
  have HK := Lib.hid ((Kx.nil none w).more (.cells (asr B m k d inp (stc x.pc x.g (.slice A n c) x.rd x.out x.st x.en)) 34 (0, 0)))
  obtain ⟨W0, hW0⟩ : ∃ W, w.alloc (.cells (asr B m k d inp (stc x.pc x.g (.slice A n c) x.rd x.out x.st x.en)) 34 (0, 0)) = W := ⟨_, rfl⟩
  rw [hW0] at HK
  have g0 := Lib.hid (HK.out.at 0 rfl)
  have a0 := row_cell (HK.out.at 0 rfl) 0 (asr_0 _ _ _ _ _ _)
  have a1 := row_cell (HK.out.at 0 rfl) 1 (asr_1 _ _ _ _ _ _)
  have a2 := row_cell (HK.out.at 0 rfl) 2 (asr_2 _ _ _ _ _ _)
  have CS := Lib.hid (fun w => small9 (A := A) (B := B) (n := n) (c := c) (m := m) (k := k) (d := d) inp x w)
  have HT := Lib.hid ht
  have HM := Lib.hid hM
  obtain ⟨⟨sn1, sn2, hRm, hWm⟩, hWg, hpc, hrd, hst, hen, hos⟩ := hS
  have HN := Lib.hid (And.intro sn1 sn2)
  have HR := Lib.hid hRm
  have HW := Lib.hid hWm
  have HG := Lib.hid hWg
  have HB := Lib.hid (And.intro hst (And.intro hpc (And.intro hrd hen)))
  clear ht hM sn1 sn2 hRm hWm hWg hpc hrd hst hen hos
  by_cases hsm : sml m inp n x
  · have cs := CS.out
    rw [decide_eq_true hsm] at cs
    replace CS := Lib.hid cs
    clear cs
    obtain ⟨m1, m2, m3, m4, m5⟩ := hsm
    have hb62 := HB.out.1
    have STC := Lib.hid (fun (W : World) (hT : Tabs W) (hc : Rd W B m code) (hR : Rd W A n x.mem) => step9 (c := c) (k := k) (d := d) inp x W hT hc (by omega) hR (by omega) HN.out.1 HN.out.2 HG.out (by omega) (by omega))
    have STR := Lib.hid (fun (W : World) (hc : Rd W B m code) (hR : Rd W A n x.mem) => step9_ref (c := c) (k := k) (d := d) inp x W hc (by omega) hR (by omega) HN.out.1 HN.out.2 HG.out (by omega) (by omega))
    obtain ⟨y, hy⟩ : ∃ y, nxt code inp x = y := ⟨_, rfl⟩
    have hstp := nxt_stp (inp := inp) HG.out HR.out.bd HM.out.2.2.1.bd
    rw [hy] at STC hstp
    obtain ⟨fx, hfx⟩ : ∃ f : Nat → Int, (fun j => x.mem.getD j 0) = f := ⟨_, rfl⟩
    obtain ⟨fy, hfy⟩ : ∃ f : Nat → Int, (fun j => y.mem.getD j 0) = f := ⟨_, rfl⟩
    have FX : Hid (∀ j, x.mem.getD j 0 = fx j) := Lib.hid (fun j => congrFun hfx j)
    have FY : Hid (∀ j, y.mem.getD j 0 = fy j) := Lib.hid (fun j => congrFun hfy j)
    have fr := hstp.frm n
    rw [hfx, hfy] at fr
    have FR := Lib.hid fr
    clear hy hstp STR fr hfx hfy
    go_enter Tryd.func7, Tryd.ntmps7
    go_wp2_with (first
      | (refine wpList_load_midg (by rfl) 30 _ rfl _ 3 rfl _ _ (asr_range g0.out) Tryd.underlying30 rfl (infoS2 rfl) ?_)
      | fail)
    refine (CS.out _).mono ?_
    rintro e w1 ⟨rfl, hb⟩
    replace HK := Lib.hid (HK.out.after hb)
    clear hb
    go_upto_region 3 with fail
    clear a0 a1 a2 g0
    go_cut [3, 4] (fun s3 s4 wx => ∃ (q3 q4 : Nat) (A1 : Option Addr) (c1 : Nat), s3 = .pointer (some ⟨q3, 0, none⟩) ∧ s4 = .pointer (some ⟨q4, 0, none⟩) ∧ n ≤ c1 ∧ c1 ≤ maxLen ∧ Hid (Fm w wx (asr B m k d inp (stc x.pc x.g (.slice A n c) x.rd x.out x.st x.en)) q3 q4 n A A1 c c1 x y))
    case first =>
      replace HK := Lib.hid HK.out.drew
      refine wp_region_held_drew (S := fun W => W.rangeAt w.heap.size 3 (stc x.pc x.g (.slice A n c) x.rd x.out x.st x.en).toList ∧ W.cell? ⟨w.heap.size, 0, none⟩ = some (.slice B m k) ∧ W.cell? ⟨w.heap.size, 1, none⟩ = some (.int .i64 d) ∧ W.cell? ⟨w.heap.size, 2, none⟩ = some (.string inp)) (by kernel_rfl) ?hsx1 (fun hH => ?restx1)
      case hsx1 => (try dsimp only); with_reducible exact all25 HK.out
      obtain ⟨w4, hw4⟩ : ∃ W, w1.drew = W := ⟨_, rfl⟩
      rw [hw4] at HK hH ⊢
      clear hw4
      refine wpAnyH_take (i := 0) (v := ?vx3) (by exact op_at rfl) (by kernel_rfl) (by kernel_rfl) (by kernel_rfl) (by exact fun _ _ _ h => h) (Or.inl ⟨by rfl, ?hyx3⟩) hH ?restx3
      case hyx3 => (intro w' hSw; (try dsimp only at hSw); go_simp <;> with_reducible rfl)
      (try simp only [Act.put, List.setIfInBounds_toArray, List.set_cons_zero, List.set_cons_succ])
      refine wpAnyH_take (i := 1) (v := .agg (stc x.pc x.g (.slice A n c) x.rd x.out x.st x.en)) (by exact op_at rfl) (by kernel_rfl) (by kernel_rfl) (by kernel_rfl) (by exact fun _ _ _ h => h) (Or.inl ⟨by rfl, ?hyx4⟩) hH ?restx4
      case hyx4 => (intro w' hSw; (try dsimp only at hSw); exact row_run_mid 30 _ (by rfl) w.heap.size 3 (by rfl) _ _ hSw.1 Tryd.underlying30 (by rfl) (infoS2 rfl))
      (try simp only [Act.put, List.setIfInBounds_toArray, List.set_cons_zero, List.set_cons_succ])
      refine wpAnyH_take (i := 2) (v := ?vx5) (by exact op_at rfl) (by kernel_rfl) (by kernel_rfl) (by kernel_rfl) (by exact fun _ _ _ h => h) (Or.inl ⟨by rfl, ?hyx5⟩) hH ?restx5
      case hyx5 => (intro w' hSw; (try dsimp only at hSw); go_simp <;> with_reducible rfl)
      (try simp only [Act.put, List.setIfInBounds_toArray, List.set_cons_zero, List.set_cons_succ])
      refine wpAnyH_take (i := 3) (v := ?vx6) (by exact op_at rfl) (by kernel_rfl) (by kernel_rfl) (by kernel_rfl) (by exact fun _ _ _ h => h) (Or.inl ⟨by rfl, ?hyx6⟩) hH ?restx6
      case hyx6 => (intro w' hSw; (try dsimp only at hSw); go_simp <;> with_reducible rfl)
      (try simp only [Act.put, List.setIfInBounds_toArray, List.set_cons_zero, List.set_cons_succ])
      refine wpAnyH_take (i := 4) (v := ?vx7) (by exact op_at rfl) (by kernel_rfl) (by kernel_rfl) (by kernel_rfl) (by exact fun _ _ _ h => h) (Or.inl ⟨by rfl, ?hyx7⟩) hH ?restx7
      case hyx7 => (intro w' hSw; (try dsimp only at hSw); go_simp <;> with_reducible rfl)
      (try simp only [Act.put, List.setIfInBounds_toArray, List.set_cons_zero, List.set_cons_succ])
      refine wpAnyH_take (i := 5) (v := ?vx8) (by exact op_at rfl) (by kernel_rfl) (by kernel_rfl) (by kernel_rfl) (by exact fun _ _ _ h => h) (Or.inl ⟨by rfl, ?hyx8⟩) hH ?restx8
      case hyx8 => (intro w' hSw; (try dsimp only at hSw); go_simp <;> with_reducible rfl)
      (try simp only [Act.put, List.setIfInBounds_toArray, List.set_cons_zero, List.set_cons_succ])
      refine wpAnyH_take (i := 6) (v := ?vx9) (by exact op_at rfl) (by kernel_rfl) (by kernel_rfl) (by kernel_rfl) (by exact fun _ _ _ h => h) (Or.inl ⟨by rfl, ?hyx9⟩) hH ?restx9
      case hyx9 => (intro w' hSw; (try dsimp only at hSw); go_simp <;> with_reducible rfl)
      (try simp only [Act.put, List.setIfInBounds_toArray, List.set_cons_zero, List.set_cons_succ])
      refine wpAnyH_take (i := 7) (v := .agg (stc x.pc x.g (.slice A n c) x.rd x.out x.st x.en)) (by exact op_at rfl) (by kernel_rfl) (by kernel_rfl) (by kernel_rfl) (by exact fun _ _ _ h => h) (Or.inl ⟨by rfl, ?hyx10⟩) hH ?restx10
      case hyx10 => (intro w' hSw; (try dsimp only at hSw); exact row_run_mid 30 _ (by rfl) w.heap.size 3 (by rfl) _ _ hSw.1 Tryd.underlying30 (by rfl) (infoS2 rfl))
      (try simp only [Act.put, List.setIfInBounds_toArray, List.set_cons_zero, List.set_cons_succ])
      refine wpAnyH_ready (rs := [8, 9, 10]) (by kernel_rfl) (by simp) ?_
      refine AllReadyH.cons (op_at rfl) (fun K hK => ?z11) ?z11c
      case z11 =>
        go_simp
        go_at_call 15
        (with_reducible refine (STC.out _ (HT.out.below HK.out.be.plain) (HM.out.2.2.1.below HK.out.be.plain) (HR.out.below HK.out.be.plain)).mono ?_)
        rintro e wc ⟨v1, rfl, ⟨A1, c1, rfl, hr1, h1a, h1b, hf⟩, hbb⟩
        replace HK := Lib.hid (HK.out.after hbb)
        clear hbb hf
        go_simp
        refine hK.out _ _ ?hsx12 (fun hN => ?restx12)
        case hsx12 => (try dsimp only); with_reducible exact all25 HK.out
        clear hK K hH
        have hH := hN
        clear hN
        (try simp only [Act.put, List.setIfInBounds_toArray, List.set_cons_zero, List.set_cons_succ])
        refine wpAnyH_ready (rs := [9, 10]) (by kernel_rfl) (by simp) ?_
        refine AllReadyH.cons (op_at rfl) (fun K hK => ?z13) ?z13c
        case z13 =>
          go_simp
          obtain ⟨q3, hq3⟩ : ∃ q, wc.heap.size = q := ⟨_, rfl⟩
          have hge3 : w.heap.size ≤ q3 := by rw [← hq3]; exact HK.out.be.size
          replace HK := Lib.hid (HK.out.add q3 hq3 (.cells #[.int .i64 0, .int .u32 0, .int .u32 0, .int .u32 0, .int .u32 0, .int .u32 0, .int .u32 0, .int .u32 0, .int .u32 0, .int .u32 0, .int .u32 0, .int .u32 0, .int .u32 0, .int .u32 0, .int .u32 0, .int .u32 0, .int .u32 0, .slice none 0 0, .int .i64 0, .string ⟨#[]⟩, .int .i64 0, .int .i64 0] 30 (0, 0)))
          have ho3 := hr1.off (Nat.le_of_eq hq3)
          obtain ⟨wa3, hwa3⟩ : ∃ W, wc.alloc (.cells #[.int .i64 0, .int .u32 0, .int .u32 0, .int .u32 0, .int .u32 0, .int .u32 0, .int .u32 0, .int .u32 0, .int .u32 0, .int .u32 0, .int .u32 0, .int .u32 0, .int .u32 0, .int .u32 0, .int .u32 0, .int .u32 0, .int .u32 0, .slice none 0 0, .int .i64 0, .string ⟨#[]⟩, .int .i64 0, .int .i64 0] 30 (0, 0)) = W := ⟨_, rfl⟩
          replace hr1 := hr1.below ((Below.refl _ _).alloc (Nat.le_refl _) (.cells #[.int .i64 0, .int .u32 0, .int .u32 0, .int .u32 0, .int .u32 0, .int .u32 0, .int .u32 0, .int .u32 0, .int .u32 0, .int .u32 0, .int .u32 0, .int .u32 0, .int .u32 0, .int .u32 0, .int .u32 0, .int .u32 0, .int .u32 0, .slice none 0 0, .int .i64 0, .string ⟨#[]⟩, .int .i64 0, .int .i64 0] 30 (0, 0)))
          (try rw [hq3])
          rw [hwa3] at hr1 HK ⊢
          clear hwa3 hq3
          refine hK.out _ _ ?hsx14 (fun hN => ?restx14)
          case hsx14 => (try dsimp only); with_reducible exact all25 HK.out
          clear hK K hH
          have hH := hN
          clear hN
          (try simp only [Act.put, List.setIfInBounds_toArray, List.set_cons_zero, List.set_cons_succ])
          refine wpAnyH_ready (rs := [10]) (by kernel_rfl) (by simp) ?_
          refine AllReadyH.cons (op_at rfl) (fun K hK => ?z15) ?z15c
          case z15 =>
            go_simp
            obtain ⟨q4, hq4⟩ : ∃ q, wa3.heap.size = q := ⟨_, rfl⟩
            have hge4 : w.heap.size ≤ q4 := by rw [← hq4]; exact HK.out.be.size
            replace HK := Lib.hid (HK.out.add q4 hq4 (.cells #[.int .i64 0, .int .u32 0, .int .u32 0, .int .u32 0, .int .u32 0, .int .u32 0, .int .u32 0, .int .u32 0, .int .u32 0, .int .u32 0, .int .u32 0, .int .u32 0, .int .u32 0, .int .u32 0, .int .u32 0, .int .u32 0, .int .u32 0, .slice none 0 0, .int .i64 0, .string ⟨#[]⟩, .int .i64 0, .int .i64 0] 30 (0, 0)))
            have ho4 := hr1.off (Nat.le_of_eq hq4)
            obtain ⟨wa4, hwa4⟩ : ∃ W, wa3.alloc (.cells #[.int .i64 0, .int .u32 0, .int .u32 0, .int .u32 0, .int .u32 0, .int .u32 0, .int .u32 0, .int .u32 0, .int .u32 0, .int .u32 0, .int .u32 0, .int .u32 0, .int .u32 0, .int .u32 0, .int .u32 0, .int .u32 0, .int .u32 0, .slice none 0 0, .int .i64 0, .string ⟨#[]⟩, .int .i64 0, .int .i64 0] 30 (0, 0)) = W := ⟨_, rfl⟩
            replace hr1 := hr1.below ((Below.refl _ _).alloc (Nat.le_refl _) (.cells #[.int .i64 0, .int .u32 0, .int .u32 0, .int .u32 0, .int .u32 0, .int .u32 0, .int .u32 0, .int .u32 0, .int .u32 0, .int .u32 0, .int .u32 0, .int .u32 0, .int .u32 0, .int .u32 0, .int .u32 0, .int .u32 0, .int .u32 0, .slice none 0 0, .int .i64 0, .string ⟨#[]⟩, .int .i64 0, .int .i64 0] 30 (0, 0)))
            (try rw [hq4])
            rw [hwa4] at hr1 HK ⊢
            clear hwa4 hq4
            refine hK.out _ _ ?hsx16 (fun hN => ?restx16)
            case hsx16 => (try dsimp only); with_reducible exact all25 HK.out
            clear hK K hH
            have hH := hN
            clear hN
            (try simp only [Act.put, List.setIfInBounds_toArray, List.set_cons_zero, List.set_cons_succ])
            refine wpAnyH_ready (rs := [11]) (by kernel_rfl) (by simp) ?_
            refine AllReadyH.cons (op_at rfl) (fun K hK => ?_) AllReadyH.nil
            have S3 : Hid ((stc x.pc x.g (.slice A n c) x.rd x.out x.st x.en).all (·.oneCell') = true) := Lib.hid (stc_one _ _ _ _ _ _ _ _ _)
            refine step_store_row9 rfl 30 _ _ rfl q3 (stc x.pc x.g (.slice A n c) x.rd x.out x.st x.en) (by rfl) (by rfl) 30 _ (HK.out.at 1 rfl) (infoS2 rfl) rfl S3.out ?_
            replace HK := Lib.hid (HK.out.putRow 1 rfl (.inr hge3) (stc x.pc x.g (.slice A n c) x.rd x.out x.st x.en))
            replace hr1 := hr1.setRow0 ho3 (stc x.pc x.g (.slice A n c) x.rd x.out x.st x.en)
            refine hK.out _ _ ?hsx17 (fun hN => ?restx17)
            case hsx17 => (try dsimp only); with_reducible exact all25 HK.out
            clear hK K hH
            have hH := hN
            clear hN
            simp only [Act.put]
            refine wpAnyH_ready (rs := [12]) (by kernel_rfl) (by simp) ?_
            refine AllReadyH.cons (op_at rfl) (fun K hK => ?_) AllReadyH.nil
            have S4 : Hid ((stc y.pc y.g (.slice A1 n c1) y.rd y.out y.st y.en).all (·.oneCell') = true) := Lib.hid (stc_one _ _ _ _ _ _ _ _ _)
            refine step_store_row9 rfl 30 _ _ rfl q4 (stc y.pc y.g (.slice A1 n c1) y.rd y.out y.st y.en) (by rfl) (by rfl) 30 _ (HK.out.at 2 rfl) (infoS2 rfl) rfl S4.out ?_
            replace HK := Lib.hid (HK.out.putRow 2 rfl (.inr hge4) (stc y.pc y.g (.slice A1 n c1) y.rd y.out y.st y.en))
            replace hr1 := hr1.setRow0 ho4 (stc y.pc y.g (.slice A1 n c1) y.rd y.out y.st y.en)
            refine hK.out _ _ ?hsx18 (fun hN => ?restx18)
            case hsx18 => (try dsimp only); with_reducible exact all25 HK.out
            clear hK K hH
            simp only [Act.put]
            refine wpAnyH_done (by kernel_rfl) ?_ _
            (go_wp2_with fail); go_meet; exact ⟨q3, q4, A1, c1, rfl, rfl, h1a, h1b, Lib.hid ⟨HK.out, HR.out.below HK.out.be.plain, hr1⟩⟩
          case z15c =>
            exact AllReadyH.nil
        case z13c =>
          refine AllReadyH.cons (op_at rfl) (fun K hK => ?z20) ?z20c
          case z20 =>
            go_simp
            obtain ⟨q4, hq4⟩ : ∃ q, wc.heap.size = q := ⟨_, rfl⟩
            have hge4 : w.heap.size ≤ q4 := by rw [← hq4]; exact HK.out.be.size
            replace HK := Lib.hid (HK.out.add q4 hq4 (.cells #[.int .i64 0, .int .u32 0, .int .u32 0, .int .u32 0, .int .u32 0, .int .u32 0, .int .u32 0, .int .u32 0, .int .u32 0, .int .u32 0, .int .u32 0, .int .u32 0, .int .u32 0, .int .u32 0, .int .u32 0, .int .u32 0, .int .u32 0, .slice none 0 0, .int .i64 0, .string ⟨#[]⟩, .int .i64 0, .int .i64 0] 30 (0, 0)))
            have ho4 := hr1.off (Nat.le_of_eq hq4)
            obtain ⟨wa4, hwa4⟩ : ∃ W, wc.alloc (.cells #[.int .i64 0, .int .u32 0, .int .u32 0, .int .u32 0, .int .u32 0, .int .u32 0, .int .u32 0, .int .u32 0, .int .u32 0, .int .u32 0, .int .u32 0, .int .u32 0, .int .u32 0, .int .u32 0, .int .u32 0, .int .u32 0, .int .u32 0, .slice none 0 0, .int .i64 0, .string ⟨#[]⟩, .int .i64 0, .int .i64 0] 30 (0, 0)) = W := ⟨_, rfl⟩
            replace hr1 := hr1.below ((Below.refl _ _).alloc (Nat.le_refl _) (.cells #[.int .i64 0, .int .u32 0, .int .u32 0, .int .u32 0, .int .u32 0, .int .u32 0, .int .u32 0, .int .u32 0, .int .u32 0, .int .u32 0, .int .u32 0, .int .u32 0, .int .u32 0, .int .u32 0, .int .u32 0, .int .u32 0, .int .u32 0, .slice none 0 0, .int .i64 0, .string ⟨#[]⟩, .int .i64 0, .int .i64 0] 30 (0, 0)))
            (try rw [hq4])
            rw [hwa4] at hr1 HK ⊢
            clear hwa4 hq4
            refine hK.out _ _ ?hsx21 (fun hN => ?restx21)
            case hsx21 => (try dsimp only); with_reducible exact all25 HK.out
            clear hK K hH
            have hH := hN
            clear hN
            (try simp only [Act.put, List.setIfInBounds_toArray, List.set_cons_zero, List.set_cons_succ])
            refine wpAnyH_ready (rs := [9]) (by kernel_rfl) (by simp) ?_
            refine AllReadyH.cons (op_at rfl) (fun K hK => ?z22) ?z22c
            case z22 =>
              go_simp
              obtain ⟨q3, hq3⟩ : ∃ q, wa4.heap.size = q := ⟨_, rfl⟩
              have hge3 : w.heap.size ≤ q3 := by rw [← hq3]; exact HK.out.be.size
              replace HK := Lib.hid (HK.out.add q3 hq3 (.cells #[.int .i64 0, .int .u32 0, .int .u32 0, .int .u32 0, .int .u32 0, .int .u32 0, .int .u32 0, .int .u32 0, .int .u32 0, .int .u32 0, .int .u32 0, .int .u32 0, .int .u32 0, .int .u32 0, .int .u32 0, .int .u32 0, .int .u32 0, .slice none 0 0, .int .i64 0, .string ⟨#[]⟩, .int .i64 0, .int .i64 0] 30 (0, 0)))
              have ho3 := hr1.off (Nat.le_of_eq hq3)
              obtain ⟨wa3, hwa3⟩ : ∃ W, wa4.alloc (.cells #[.int .i64 0, .int .u32 0, .int .u32 0, .int .u32 0, .int .u32 0, .int .u32 0, .int .u32 0, .int .u32 0, .int .u32 0, .int .u32 0, .int .u32 0, .int .u32 0, .int .u32 0, .int .u32 0, .int .u32 0, .int .u32 0, .int .u32 0, .slice none 0 0, .int .i64 0, .string ⟨#[]⟩, .int .i64 0, .int .i64 0] 30 (0, 0)) = W := ⟨_, rfl⟩
              replace hr1 := hr1.below ((Below.refl _ _).alloc (Nat.le_refl _) (.cells #[.int .i64 0, .int .u32 0, .int .u32 0, .int .u32 0, .int .u32 0, .int .u32 0, .int .u32 0, .int .u32 0, .int .u32 0, .int .u32 0, .int .u32 0, .int .u32 0, .int .u32 0, .int .u32 0, .int .u32 0, .int .u32 0, .int .u32 0, .slice none 0 0, .int .i64 0, .string ⟨#[]⟩, .int .i64 0, .int .i64 0] 30 (0, 0)))
              (try rw [hq3])
              rw [hwa3] at hr1 HK ⊢
              clear hwa3 hq3
              refine hK.out _ _ ?hsx23 (fun hN => ?restx23)
              case hsx23 => (try dsimp only); with_reducible exact all25 HK.out
              clear hK K hH
              have hH := hN
              clear hN
              (try simp only [Act.put, List.setIfInBounds_toArray, List.set_cons_zero, List.set_cons_succ])
              refine wpAnyH_ready (rs := [11]) (by kernel_rfl) (by simp) ?_
              refine AllReadyH.cons (op_at rfl) (fun K hK => ?_) AllReadyH.nil
              have S3 : Hid ((stc x.pc x.g (.slice A n c) x.rd x.out x.st x.en).all (·.oneCell') = true) := Lib.hid (stc_one _ _ _ _ _ _ _ _ _)
              refine step_store_row9 rfl 30 _ _ rfl q3 (stc x.pc x.g (.slice A n c) x.rd x.out x.st x.en) (by rfl) (by rfl) 30 _ (HK.out.at 2 rfl) (infoS2 rfl) rfl S3.out ?_
              replace HK := Lib.hid (HK.out.putRow 2 rfl (.inr hge3) (stc x.pc x.g (.slice A n c) x.rd x.out x.st x.en))
              replace hr1 := hr1.setRow0 ho3 (stc x.pc x.g (.slice A n c) x.rd x.out x.st x.en)
              refine hK.out _ _ ?hsx24 (fun hN => ?restx24)
              case hsx24 => (try dsimp only); with_reducible exact all25 HK.out
              clear hK K hH
              have hH := hN
              clear hN
              simp only [Act.put]
              refine wpAnyH_ready (rs := [12]) (by kernel_rfl) (by simp) ?_
              refine AllReadyH.cons (op_at rfl) (fun K hK => ?_) AllReadyH.nil
              have S4 : Hid ((stc y.pc y.g (.slice A1 n c1) y.rd y.out y.st y.en).all (·.oneCell') = true) := Lib.hid (stc_one _ _ _ _ _ _ _ _ _)
              refine step_store_row9 rfl 30 _ _ rfl q4 (stc y.pc y.g (.slice A1 n c1) y.rd y.out y.st y.en) (by rfl) (by rfl) 30 _ (HK.out.at 1 rfl) (infoS2 rfl) rfl S4.out ?_
              replace HK := Lib.hid (HK.out.putRow 1 rfl (.inr hge4) (stc y.pc y.g (.slice A1 n c1) y.rd y.out y.st y.en))
              replace hr1 := hr1.setRow0 ho4 (stc y.pc y.g (.slice A1 n c1) y.rd y.out y.st y.en)
              refine hK.out _ _ ?hsx25 (fun hN => ?restx25)
              case hsx25 => (try dsimp only); with_reducible exact all25 HK.out
              clear hK K hH
              simp only [Act.put]
              refine wpAnyH_done (by kernel_rfl) ?_ _
              (go_wp2_with fail); go_meet; exact ⟨q3, q4, A1, c1, rfl, rfl, h1a, h1b, Lib.hid ⟨(HK.out.perm (List.Perm.cons _ (List.Perm.swap _ _ _))), HR.out.below HK.out.be.plain, hr1⟩⟩
            case z22c =>
              exact AllReadyH.nil
          case z20c =>
            exact AllReadyH.nil
      case z11c =>
        refine AllReadyH.cons (op_at rfl) (fun K hK => ?z27) ?z27c
        case z27 =>
          go_simp
          obtain ⟨q3, hq3⟩ : ∃ q, w4.heap.size = q := ⟨_, rfl⟩
          have hge3 : w.heap.size ≤ q3 := by rw [← hq3]; exact HK.out.be.size
          replace HK := Lib.hid (HK.out.add q3 hq3 (.cells #[.int .i64 0, .int .u32 0, .int .u32 0, .int .u32 0, .int .u32 0, .int .u32 0, .int .u32 0, .int .u32 0, .int .u32 0, .int .u32 0, .int .u32 0, .int .u32 0, .int .u32 0, .int .u32 0, .int .u32 0, .int .u32 0, .int .u32 0, .slice none 0 0, .int .i64 0, .string ⟨#[]⟩, .int .i64 0, .int .i64 0] 30 (0, 0)))
          obtain ⟨wa3, hwa3⟩ : ∃ W, w4.alloc (.cells #[.int .i64 0, .int .u32 0, .int .u32 0, .int .u32 0, .int .u32 0, .int .u32 0, .int .u32 0, .int .u32 0, .int .u32 0, .int .u32 0, .int .u32 0, .int .u32 0, .int .u32 0, .int .u32 0, .int .u32 0, .int .u32 0, .int .u32 0, .slice none 0 0, .int .i64 0, .string ⟨#[]⟩, .int .i64 0, .int .i64 0] 30 (0, 0)) = W := ⟨_, rfl⟩
          (try rw [hq3])
          rw [hwa3] at HK ⊢
          clear hwa3 hq3
          refine hK.out _ _ ?hsx28 (fun hN => ?restx28)
          case hsx28 => (try dsimp only); with_reducible exact all25 HK.out
          clear hK K hH
          have hH := hN
          clear hN
          (try simp only [Act.put, List.setIfInBounds_toArray, List.set_cons_zero, List.set_cons_succ])
          refine wpAnyH_ready (rs := [8, 10]) (by kernel_rfl) (by simp) ?_
          refine AllReadyH.cons (op_at rfl) (fun K hK => ?z29) ?z29c
          case z29 =>
            go_simp
            go_at_call 15
            (with_reducible refine (STC.out _ (HT.out.below HK.out.be.plain) (HM.out.2.2.1.below HK.out.be.plain) (HR.out.below HK.out.be.plain)).mono ?_)
            rintro e wc ⟨v1, rfl, ⟨A1, c1, rfl, hr1, h1a, h1b, hf⟩, hbb⟩
            have ho3 := hf.off0 (HR.out.off hge3) (HK.out.lt 1 rfl)
            replace HK := Lib.hid (HK.out.after hbb)
            clear hbb hf
            go_simp
            refine hK.out _ _ ?hsx30 (fun hN => ?restx30)
            case hsx30 => (try dsimp only); with_reducible exact all25 HK.out
            clear hK K hH
            have hH := hN
            clear hN
            (try simp only [Act.put, List.setIfInBounds_toArray, List.set_cons_zero, List.set_cons_succ])
            refine wpAnyH_ready (rs := [10]) (by kernel_rfl) (by simp) ?_
            refine AllReadyH.cons (op_at rfl) (fun K hK => ?z31) ?z31c
            case z31 =>
              go_simp
              obtain ⟨q4, hq4⟩ : ∃ q, wc.heap.size = q := ⟨_, rfl⟩
              have hge4 : w.heap.size ≤ q4 := by rw [← hq4]; exact HK.out.be.size
              replace HK := Lib.hid (HK.out.add q4 hq4 (.cells #[.int .i64 0, .int .u32 0, .int .u32 0, .int .u32 0, .int .u32 0, .int .u32 0, .int .u32 0, .int .u32 0, .int .u32 0, .int .u32 0, .int .u32 0, .int .u32 0, .int .u32 0, .int .u32 0, .int .u32 0, .int .u32 0, .int .u32 0, .slice none 0 0, .int .i64 0, .string ⟨#[]⟩, .int .i64 0, .int .i64 0] 30 (0, 0)))
              have ho4 := hr1.off (Nat.le_of_eq hq4)
              obtain ⟨wa4, hwa4⟩ : ∃ W, wc.alloc (.cells #[.int .i64 0, .int .u32 0, .int .u32 0, .int .u32 0, .int .u32 0, .int .u32 0, .int .u32 0, .int .u32 0, .int .u32 0, .int .u32 0, .int .u32 0, .int .u32 0, .int .u32 0, .int .u32 0, .int .u32 0, .int .u32 0, .int .u32 0, .slice none 0 0, .int .i64 0, .string ⟨#[]⟩, .int .i64 0, .int .i64 0] 30 (0, 0)) = W := ⟨_, rfl⟩
              replace hr1 := hr1.below ((Below.refl _ _).alloc (Nat.le_refl _) (.cells #[.int .i64 0, .int .u32 0, .int .u32 0, .int .u32 0, .int .u32 0, .int .u32 0, .int .u32 0, .int .u32 0, .int .u32 0, .int .u32 0, .int .u32 0, .int .u32 0, .int .u32 0, .int .u32 0, .int .u32 0, .int .u32 0, .int .u32 0, .slice none 0 0, .int .i64 0, .string ⟨#[]⟩, .int .i64 0, .int .i64 0] 30 (0, 0)))
              (try rw [hq4])
              rw [hwa4] at hr1 HK ⊢
              clear hwa4 hq4
              refine hK.out _ _ ?hsx32 (fun hN => ?restx32)
              case hsx32 => (try dsimp only); with_reducible exact all25 HK.out
              clear hK K hH
              have hH := hN
              clear hN
              (try simp only [Act.put, List.setIfInBounds_toArray, List.set_cons_zero, List.set_cons_succ])
              refine wpAnyH_ready (rs := [11]) (by kernel_rfl) (by simp) ?_
              refine AllReadyH.cons (op_at rfl) (fun K hK => ?_) AllReadyH.nil
              have S3 : Hid ((stc x.pc x.g (.slice A n c) x.rd x.out x.st x.en).all (·.oneCell') = true) := Lib.hid (stc_one _ _ _ _ _ _ _ _ _)
              refine step_store_row9 rfl 30 _ _ rfl q3 (stc x.pc x.g (.slice A n c) x.rd x.out x.st x.en) (by rfl) (by rfl) 30 _ (HK.out.at 1 rfl) (infoS2 rfl) rfl S3.out ?_
              replace HK := Lib.hid (HK.out.putRow 1 rfl (.inr hge3) (stc x.pc x.g (.slice A n c) x.rd x.out x.st x.en))
              replace hr1 := hr1.setRow0 ho3 (stc x.pc x.g (.slice A n c) x.rd x.out x.st x.en)
              refine hK.out _ _ ?hsx33 (fun hN => ?restx33)
              case hsx33 => (try dsimp only); with_reducible exact all25 HK.out
              clear hK K hH
              have hH := hN
              clear hN
              simp only [Act.put]
              refine wpAnyH_ready (rs := [12]) (by kernel_rfl) (by simp) ?_
              refine AllReadyH.cons (op_at rfl) (fun K hK => ?_) AllReadyH.nil
              have S4 : Hid ((stc y.pc y.g (.slice A1 n c1) y.rd y.out y.st y.en).all (·.oneCell') = true) := Lib.hid (stc_one _ _ _ _ _ _ _ _ _)
              refine step_store_row9 rfl 30 _ _ rfl q4 (stc y.pc y.g (.slice A1 n c1) y.rd y.out y.st y.en) (by rfl) (by rfl) 30 _ (HK.out.at 2 rfl) (infoS2 rfl) rfl S4.out ?_
              replace HK := Lib.hid (HK.out.putRow 2 rfl (.inr hge4) (stc y.pc y.g (.slice A1 n c1) y.rd y.out y.st y.en))
              replace hr1 := hr1.setRow0 ho4 (stc y.pc y.g (.slice A1 n c1) y.rd y.out y.st y.en)
              refine hK.out _ _ ?hsx34 (fun hN => ?restx34)
              case hsx34 => (try dsimp only); with_reducible exact all25 HK.out
              clear hK K hH
              simp only [Act.put]
              refine wpAnyH_done (by kernel_rfl) ?_ _
              (go_wp2_with fail); go_meet; exact ⟨q3, q4, A1, c1, rfl, rfl, h1a, h1b, Lib.hid ⟨HK.out, HR.out.below HK.out.be.plain, hr1⟩⟩
            case z31c =>
              exact AllReadyH.nil
          case z29c =>
            refine AllReadyH.cons (op_at rfl) (fun K hK => ?z36) ?z36c
            case z36 =>
              go_simp
              obtain ⟨q4, hq4⟩ : ∃ q, wa3.heap.size = q := ⟨_, rfl⟩
              have hge4 : w.heap.size ≤ q4 := by rw [← hq4]; exact HK.out.be.size
              replace HK := Lib.hid (HK.out.add q4 hq4 (.cells #[.int .i64 0, .int .u32 0, .int .u32 0, .int .u32 0, .int .u32 0, .int .u32 0, .int .u32 0, .int .u32 0, .int .u32 0, .int .u32 0, .int .u32 0, .int .u32 0, .int .u32 0, .int .u32 0, .int .u32 0, .int .u32 0, .int .u32 0, .slice none 0 0, .int .i64 0, .string ⟨#[]⟩, .int .i64 0, .int .i64 0] 30 (0, 0)))
              obtain ⟨wa4, hwa4⟩ : ∃ W, wa3.alloc (.cells #[.int .i64 0, .int .u32 0, .int .u32 0, .int .u32 0, .int .u32 0, .int .u32 0, .int .u32 0, .int .u32 0, .int .u32 0, .int .u32 0, .int .u32 0, .int .u32 0, .int .u32 0, .int .u32 0, .int .u32 0, .int .u32 0, .int .u32 0, .slice none 0 0, .int .i64 0, .string ⟨#[]⟩, .int .i64 0, .int .i64 0] 30 (0, 0)) = W := ⟨_, rfl⟩
              (try rw [hq4])
              rw [hwa4] at HK ⊢
              clear hwa4 hq4
              refine hK.out _ _ ?hsx37 (fun hN => ?restx37)
              case hsx37 => (try dsimp only); with_reducible exact all25 HK.out
              clear hK K hH
              have hH := hN
              clear hN
              (try simp only [Act.put, List.setIfInBounds_toArray, List.set_cons_zero, List.set_cons_succ])
              refine wpAnyH_ready (rs := [8]) (by kernel_rfl) (by simp) ?_
              refine AllReadyH.cons (op_at rfl) (fun K hK => ?z38) ?z38c
              case z38 =>
                go_simp
                go_at_call 15
                (with_reducible refine (STC.out _ (HT.out.below HK.out.be.plain) (HM.out.2.2.1.below HK.out.be.plain) (HR.out.below HK.out.be.plain)).mono ?_)
                rintro e wc ⟨v1, rfl, ⟨A1, c1, rfl, hr1, h1a, h1b, hf⟩, hbb⟩
                have ho3 := hf.off0 (HR.out.off hge3) (HK.out.lt 1 rfl)
                have ho4 := hf.off0 (HR.out.off hge4) (HK.out.lt 2 rfl)
                replace HK := Lib.hid (HK.out.after hbb)
                clear hbb hf
                go_simp
                refine hK.out _ _ ?hsx39 (fun hN => ?restx39)
                case hsx39 => (try dsimp only); with_reducible exact all25 HK.out
                clear hK K hH
                have hH := hN
                clear hN
                (try simp only [Act.put, List.setIfInBounds_toArray, List.set_cons_zero, List.set_cons_succ])
                refine wpAnyH_ready (rs := [11]) (by kernel_rfl) (by simp) ?_
                refine AllReadyH.cons (op_at rfl) (fun K hK => ?_) AllReadyH.nil
                have S3 : Hid ((stc x.pc x.g (.slice A n c) x.rd x.out x.st x.en).all (·.oneCell') = true) := Lib.hid (stc_one _ _ _ _ _ _ _ _ _)
                refine step_store_row9 rfl 30 _ _ rfl q3 (stc x.pc x.g (.slice A n c) x.rd x.out x.st x.en) (by rfl) (by rfl) 30 _ (HK.out.at 1 rfl) (infoS2 rfl) rfl S3.out ?_
                replace HK := Lib.hid (HK.out.putRow 1 rfl (.inr hge3) (stc x.pc x.g (.slice A n c) x.rd x.out x.st x.en))
                replace hr1 := hr1.setRow0 ho3 (stc x.pc x.g (.slice A n c) x.rd x.out x.st x.en)
                refine hK.out _ _ ?hsx40 (fun hN => ?restx40)
                case hsx40 => (try dsimp only); with_reducible exact all25 HK.out
                clear hK K hH
                have hH := hN
                clear hN
                simp only [Act.put]
                refine wpAnyH_ready (rs := [12]) (by kernel_rfl) (by simp) ?_
                refine AllReadyH.cons (op_at rfl) (fun K hK => ?_) AllReadyH.nil
                have S4 : Hid ((stc y.pc y.g (.slice A1 n c1) y.rd y.out y.st y.en).all (·.oneCell') = true) := Lib.hid (stc_one _ _ _ _ _ _ _ _ _)
                refine step_store_row9 rfl 30 _ _ rfl q4 (stc y.pc y.g (.slice A1 n c1) y.rd y.out y.st y.en) (by rfl) (by rfl) 30 _ (HK.out.at 2 rfl) (infoS2 rfl) rfl S4.out ?_
                replace HK := Lib.hid (HK.out.putRow 2 rfl (.inr hge4) (stc y.pc y.g (.slice A1 n c1) y.rd y.out y.st y.en))
                replace hr1 := hr1.setRow0 ho4 (stc y.pc y.g (.slice A1 n c1) y.rd y.out y.st y.en)
                refine hK.out _ _ ?hsx41 (fun hN => ?restx41)
                case hsx41 => (try dsimp only); with_reducible exact all25 HK.out
                clear hK K hH
                simp only [Act.put]
                refine wpAnyH_done (by kernel_rfl) ?_ _
                (go_wp2_with fail); go_meet; exact ⟨q3, q4, A1, c1, rfl, rfl, h1a, h1b, Lib.hid ⟨HK.out, HR.out.below HK.out.be.plain, hr1⟩⟩
              case z38c =>
                exact AllReadyH.nil
            case z36c =>
              exact AllReadyH.nil
        case z27c =>
          refine AllReadyH.cons (op_at rfl) (fun K hK => ?z43) ?z43c
          case z43 =>
            go_simp
            obtain ⟨q4, hq4⟩ : ∃ q, w4.heap.size = q := ⟨_, rfl⟩
            have hge4 : w.heap.size ≤ q4 := by rw [← hq4]; exact HK.out.be.size
            replace HK := Lib.hid (HK.out.add q4 hq4 (.cells #[.int .i64 0, .int .u32 0, .int .u32 0, .int .u32 0, .int .u32 0, .int .u32 0, .int .u32 0, .int .u32 0, .int .u32 0, .int .u32 0, .int .u32 0, .int .u32 0, .int .u32 0, .int .u32 0, .int .u32 0, .int .u32 0, .int .u32 0, .slice none 0 0, .int .i64 0, .string ⟨#[]⟩, .int .i64 0, .int .i64 0] 30 (0, 0)))
            obtain ⟨wa4, hwa4⟩ : ∃ W, w4.alloc (.cells #[.int .i64 0, .int .u32 0, .int .u32 0, .int .u32 0, .int .u32 0, .int .u32 0, .int .u32 0, .int .u32 0, .int .u32 0, .int .u32 0, .int .u32 0, .int .u32 0, .int .u32 0, .int .u32 0, .int .u32 0, .int .u32 0, .int .u32 0, .slice none 0 0, .int .i64 0, .string ⟨#[]⟩, .int .i64 0, .int .i64 0] 30 (0, 0)) = W := ⟨_, rfl⟩
            (try rw [hq4])
            rw [hwa4] at HK ⊢
            clear hwa4 hq4
            refine hK.out _ _ ?hsx44 (fun hN => ?restx44)
            case hsx44 => (try dsimp only); with_reducible exact all25 HK.out
            clear hK K hH
            have hH := hN
            clear hN
            (try simp only [Act.put, List.setIfInBounds_toArray, List.set_cons_zero, List.set_cons_succ])
            refine wpAnyH_ready (rs := [8, 9]) (by kernel_rfl) (by simp) ?_
            refine AllReadyH.cons (op_at rfl) (fun K hK => ?z45) ?z45c
            case z45 =>
              go_simp
              go_at_call 15
              (with_reducible refine (STC.out _ (HT.out.below HK.out.be.plain) (HM.out.2.2.1.below HK.out.be.plain) (HR.out.below HK.out.be.plain)).mono ?_)
              rintro e wc ⟨v1, rfl, ⟨A1, c1, rfl, hr1, h1a, h1b, hf⟩, hbb⟩
              have ho4 := hf.off0 (HR.out.off hge4) (HK.out.lt 1 rfl)
              replace HK := Lib.hid (HK.out.after hbb)
              clear hbb hf
              go_simp
              refine hK.out _ _ ?hsx46 (fun hN => ?restx46)
              case hsx46 => (try dsimp only); with_reducible exact all25 HK.out
              clear hK K hH
              have hH := hN
              clear hN
              (try simp only [Act.put, List.setIfInBounds_toArray, List.set_cons_zero, List.set_cons_succ])
              refine wpAnyH_ready (rs := [9]) (by kernel_rfl) (by simp) ?_
              refine AllReadyH.cons (op_at rfl) (fun K hK => ?z47) ?z47c
              case z47 =>
                go_simp
                obtain ⟨q3, hq3⟩ : ∃ q, wc.heap.size = q := ⟨_, rfl⟩
                have hge3 : w.heap.size ≤ q3 := by rw [← hq3]; exact HK.out.be.size
                replace HK := Lib.hid (HK.out.add q3 hq3 (.cells #[.int .i64 0, .int .u32 0, .int .u32 0, .int .u32 0, .int .u32 0, .int .u32 0, .int .u32 0, .int .u32 0, .int .u32 0, .int .u32 0, .int .u32 0, .int .u32 0, .int .u32 0, .int .u32 0, .int .u32 0, .int .u32 0, .int .u32 0, .slice none 0 0, .int .i64 0, .string ⟨#[]⟩, .int .i64 0, .int .i64 0] 30 (0, 0)))
                have ho3 := hr1.off (Nat.le_of_eq hq3)
                obtain ⟨wa3, hwa3⟩ : ∃ W, wc.alloc (.cells #[.int .i64 0, .int .u32 0, .int .u32 0, .int .u32 0, .int .u32 0, .int .u32 0, .int .u32 0, .int .u32 0, .int .u32 0, .int .u32 0, .int .u32 0, .int .u32 0, .int .u32 0, .int .u32 0, .int .u32 0, .int .u32 0, .int .u32 0, .slice none 0 0, .int .i64 0, .string ⟨#[]⟩, .int .i64 0, .int .i64 0] 30 (0, 0)) = W := ⟨_, rfl⟩
                replace hr1 := hr1.below ((Below.refl _ _).alloc (Nat.le_refl _) (.cells #[.int .i64 0, .int .u32 0, .int .u32 0, .int .u32 0, .int .u32 0, .int .u32 0, .int .u32 0, .int .u32 0, .int .u32 0, .int .u32 0, .int .u32 0, .int .u32 0, .int .u32 0, .int .u32 0, .int .u32 0, .int .u32 0, .int .u32 0, .slice none 0 0, .int .i64 0, .string ⟨#[]⟩, .int .i64 0, .int .i64 0] 30 (0, 0)))
                (try rw [hq3])
                rw [hwa3] at hr1 HK ⊢
                clear hwa3 hq3
                refine hK.out _ _ ?hsx48 (fun hN => ?restx48)
                case hsx48 => (try dsimp only); with_reducible exact all25 HK.out
                clear hK K hH
                have hH := hN
                clear hN
                (try simp only [Act.put, List.setIfInBounds_toArray, List.set_cons_zero, List.set_cons_succ])
                refine wpAnyH_ready (rs := [11]) (by kernel_rfl) (by simp) ?_
                refine AllReadyH.cons (op_at rfl) (fun K hK => ?_) AllReadyH.nil
                have S3 : Hid ((stc x.pc x.g (.slice A n c) x.rd x.out x.st x.en).all (·.oneCell') = true) := Lib.hid (stc_one _ _ _ _ _ _ _ _ _)
                refine step_store_row9 rfl 30 _ _ rfl q3 (stc x.pc x.g (.slice A n c) x.rd x.out x.st x.en) (by rfl) (by rfl) 30 _ (HK.out.at 2 rfl) (infoS2 rfl) rfl S3.out ?_
                replace HK := Lib.hid (HK.out.putRow 2 rfl (.inr hge3) (stc x.pc x.g (.slice A n c) x.rd x.out x.st x.en))
                replace hr1 := hr1.setRow0 ho3 (stc x.pc x.g (.slice A n c) x.rd x.out x.st x.en)
                refine hK.out _ _ ?hsx49 (fun hN => ?restx49)
                case hsx49 => (try dsimp only); with_reducible exact all25 HK.out
                clear hK K hH
                have hH := hN
                clear hN
                simp only [Act.put]
                refine wpAnyH_ready (rs := [12]) (by kernel_rfl) (by simp) ?_
                refine AllReadyH.cons (op_at rfl) (fun K hK => ?_) AllReadyH.nil
                have S4 : Hid ((stc y.pc y.g (.slice A1 n c1) y.rd y.out y.st y.en).all (·.oneCell') = true) := Lib.hid (stc_one _ _ _ _ _ _ _ _ _)
                refine step_store_row9 rfl 30 _ _ rfl q4 (stc y.pc y.g (.slice A1 n c1) y.rd y.out y.st y.en) (by rfl) (by rfl) 30 _ (HK.out.at 1 rfl) (infoS2 rfl) rfl S4.out ?_
                replace HK := Lib.hid (HK.out.putRow 1 rfl (.inr hge4) (stc y.pc y.g (.slice A1 n c1) y.rd y.out y.st y.en))
                replace hr1 := hr1.setRow0 ho4 (stc y.pc y.g (.slice A1 n c1) y.rd y.out y.st y.en)
                refine hK.out _ _ ?hsx50 (fun hN => ?restx50)
                case hsx50 => (try dsimp only); with_reducible exact all25 HK.out
                clear hK K hH
                simp only [Act.put]
                refine wpAnyH_done (by kernel_rfl) ?_ _
                (go_wp2_with fail); go_meet; exact ⟨q3, q4, A1, c1, rfl, rfl, h1a, h1b, Lib.hid ⟨(HK.out.perm (List.Perm.cons _ (List.Perm.swap _ _ _))), HR.out.below HK.out.be.plain, hr1⟩⟩
              case z47c =>
                exact AllReadyH.nil
            case z45c =>
              refine AllReadyH.cons (op_at rfl) (fun K hK => ?z52) ?z52c
              case z52 =>
                go_simp
                obtain ⟨q3, hq3⟩ : ∃ q, wa4.heap.size = q := ⟨_, rfl⟩
                have hge3 : w.heap.size ≤ q3 := by rw [← hq3]; exact HK.out.be.size
                replace HK := Lib.hid (HK.out.add q3 hq3 (.cells #[.int .i64 0, .int .u32 0, .int .u32 0, .int .u32 0, .int .u32 0, .int .u32 0, .int .u32 0, .int .u32 0, .int .u32 0, .int .u32 0, .int .u32 0, .int .u32 0, .int .u32 0, .int .u32 0, .int .u32 0, .int .u32 0, .int .u32 0, .slice none 0 0, .int .i64 0, .string ⟨#[]⟩, .int .i64 0, .int .i64 0] 30 (0, 0)))
                obtain ⟨wa3, hwa3⟩ : ∃ W, wa4.alloc (.cells #[.int .i64 0, .int .u32 0, .int .u32 0, .int .u32 0, .int .u32 0, .int .u32 0, .int .u32 0, .int .u32 0, .int .u32 0, .int .u32 0, .int .u32 0, .int .u32 0, .int .u32 0, .int .u32 0, .int .u32 0, .int .u32 0, .int .u32 0, .slice none 0 0, .int .i64 0, .string ⟨#[]⟩, .int .i64 0, .int .i64 0] 30 (0, 0)) = W := ⟨_, rfl⟩
                (try rw [hq3])
                rw [hwa3] at HK ⊢
                clear hwa3 hq3
                refine hK.out _ _ ?hsx53 (fun hN => ?restx53)
                case hsx53 => (try dsimp only); with_reducible exact all25 HK.out
                clear hK K hH
                have hH := hN
                clear hN
                (try simp only [Act.put, List.setIfInBounds_toArray, List.set_cons_zero, List.set_cons_succ])
                refine wpAnyH_ready (rs := [8]) (by kernel_rfl) (by simp) ?_
                refine AllReadyH.cons (op_at rfl) (fun K hK => ?z54) ?z54c
                case z54 =>
                  go_simp
                  go_at_call 15
                  (with_reducible refine (STC.out _ (HT.out.below HK.out.be.plain) (HM.out.2.2.1.below HK.out.be.plain) (HR.out.below HK.out.be.plain)).mono ?_)
                  rintro e wc ⟨v1, rfl, ⟨A1, c1, rfl, hr1, h1a, h1b, hf⟩, hbb⟩
                  have ho4 := hf.off0 (HR.out.off hge4) (HK.out.lt 1 rfl)
                  have ho3 := hf.off0 (HR.out.off hge3) (HK.out.lt 2 rfl)
                  replace HK := Lib.hid (HK.out.after hbb)
                  clear hbb hf
                  go_simp
                  refine hK.out _ _ ?hsx55 (fun hN => ?restx55)
                  case hsx55 => (try dsimp only); with_reducible exact all25 HK.out
                  clear hK K hH
                  have hH := hN
                  clear hN
                  (try simp only [Act.put, List.setIfInBounds_toArray, List.set_cons_zero, List.set_cons_succ])
                  refine wpAnyH_ready (rs := [11]) (by kernel_rfl) (by simp) ?_
                  refine AllReadyH.cons (op_at rfl) (fun K hK => ?_) AllReadyH.nil
                  have S3 : Hid ((stc x.pc x.g (.slice A n c) x.rd x.out x.st x.en).all (·.oneCell') = true) := Lib.hid (stc_one _ _ _ _ _ _ _ _ _)
                  refine step_store_row9 rfl 30 _ _ rfl q3 (stc x.pc x.g (.slice A n c) x.rd x.out x.st x.en) (by rfl) (by rfl) 30 _ (HK.out.at 2 rfl) (infoS2 rfl) rfl S3.out ?_
                  replace HK := Lib.hid (HK.out.putRow 2 rfl (.inr hge3) (stc x.pc x.g (.slice A n c) x.rd x.out x.st x.en))
                  replace hr1 := hr1.setRow0 ho3 (stc x.pc x.g (.slice A n c) x.rd x.out x.st x.en)
                  refine hK.out _ _ ?hsx56 (fun hN => ?restx56)
                  case hsx56 => (try dsimp only); with_reducible exact all25 HK.out
                  clear hK K hH
                  have hH := hN
                  clear hN
                  simp only [Act.put]
                  refine wpAnyH_ready (rs := [12]) (by kernel_rfl) (by simp) ?_
                  refine AllReadyH.cons (op_at rfl) (fun K hK => ?_) AllReadyH.nil
                  have S4 : Hid ((stc y.pc y.g (.slice A1 n c1) y.rd y.out y.st y.en).all (·.oneCell') = true) := Lib.hid (stc_one _ _ _ _ _ _ _ _ _)
                  refine step_store_row9 rfl 30 _ _ rfl q4 (stc y.pc y.g (.slice A1 n c1) y.rd y.out y.st y.en) (by rfl) (by rfl) 30 _ (HK.out.at 1 rfl) (infoS2 rfl) rfl S4.out ?_
                  replace HK := Lib.hid (HK.out.putRow 1 rfl (.inr hge4) (stc y.pc y.g (.slice A1 n c1) y.rd y.out y.st y.en))
                  replace hr1 := hr1.setRow0 ho4 (stc y.pc y.g (.slice A1 n c1) y.rd y.out y.st y.en)
                  refine hK.out _ _ ?hsx57 (fun hN => ?restx57)
                  case hsx57 => (try dsimp only); with_reducible exact all25 HK.out
                  clear hK K hH
                  simp only [Act.put]
                  refine wpAnyH_done (by kernel_rfl) ?_ _
                  (go_wp2_with fail); go_meet; exact ⟨q3, q4, A1, c1, rfl, rfl, h1a, h1b, Lib.hid ⟨(HK.out.perm (List.Perm.cons _ (List.Perm.swap _ _ _))), HR.out.below HK.out.be.plain, hr1⟩⟩
                case z54c =>
                  exact AllReadyH.nil
              case z52c =>
                exact AllReadyH.nil
          case z43c =>
            exact AllReadyH.nil
    case rest =>
      obtain ⟨q3, q4, A1, c1, rfl, rfl, hc1, hc2, HF⟩ := hcut
      clear HK
      go_wp2_with fail
      go_loopw [5, 7] (fun s5 s7 wr => ∃ (j : Nat), j ≤ 16 ∧ s7 = .int .i64 (j : Int) ∧ s5 = .int .i64 ((dif x.g y.g j : Nat) : Int) ∧ Hid (Fm w wr (asr B m k d inp (stc x.pc x.g (.slice A n c) x.rd x.out x.st x.en)) q3 q4 n A A1 c c1 x y)) (fun _ s7 _ => 16 - (intOf s7).toNat)
      case atStart => exact ⟨0, Nat.zero_le _, rfl, rfl, HF⟩
      case round =>
        clear HF
        obtain ⟨j, hj, rfl, rfl, HF⟩ := hrel
        by_cases hlt : j < 16
        · have i1 : (j : Int) < 16 := by omega
          have i0 : (0 : Int) ≤ (j : Int) := by omega
          have hd := dif_le x.g y.g j
          have gx := HF.out.gx hlt
          have gy := HF.out.gy hlt
          go_upto_region 8 with fail
          refine wp_region_still_lit (by kernel_rfl) (by kernel_rfl) ?_
          repeat (first | still_step | (refine wpStill_step (fun K hK => ?_); rw [if_pos (by kernel_rfl)]; go_simp; refine hK _ ?_; clear hK K))
          refine wpStill_nil ?_
          replace HF := Lib.hid (HF.out.after (Below.refl _ _).drew)
          clear gx gy
          by_cases hxy : x.g j = y.g j
          · have hd2 := dif_yes hxy
            have e1 : (x.g j != y.g j) = false := bne_eq_false_iff_eq.2 hxy
            go_wp2_with fail
            go_roundw
            case rel => exact ⟨j + 1, by omega, by go_num, by rw [hd2], HF⟩
            case measure => simp [intOf]; omega
          · have hd2 := dif_no hxy
            have e1 : (x.g j != y.g j) = true := bne_iff_ne.2 hxy
            go_wp2_with fail
            go_roundw
            case rel => exact ⟨j + 1, by omega, by go_num, by rw [hd2]; go_num, HF⟩
            case measure => simp [intOf]; omega
        · have j16 : j = 16 := by omega
          have gx := HF.out.mx
          have gy := HF.out.my
          obtain ⟨R, hR⟩ : ∃ R, dif x.g y.g j = R := ⟨_, rfl⟩
          obtain ⟨z, hz⟩ : ∃ z : Int, (j : Int) = z := ⟨_, rfl⟩
          have i1 : ¬ z < 16 := by omega
          rw [hR, hz] at ⊢
          replace FR := FR.out
          rw [← j16, hR] at FR
          replace FR := Lib.hid FR
          clear hR hz hlt hj j16
          go_upto_region 12 with fail
          clear gx gy
          go_wp2_with fail
          go_loopw [6, 8] (fun s6 s8 wr => ∃ (j : Nat), j ≤ n ∧ s8 = .int .i64 (j : Int) ∧ s6 = .int .i64 ((dif fx fy j : Nat) : Int) ∧ Hid (Fm w wr (asr B m k d inp (stc x.pc x.g (.slice A n c) x.rd x.out x.st x.en)) q3 q4 n A A1 c c1 x y)) (fun _ s8 _ => n - (intOf s8).toNat)
          case atStart => exact ⟨0, Nat.zero_le _, rfl, rfl, HF⟩
          case round =>
            clear HF
            obtain ⟨j, hj, rfl, rfl, HF⟩ := hrel
            by_cases hlt : j < n
            · have i1 : (j : Int) < (n : Int) := by omega
              have i0 : (0 : Int) ≤ (j : Int) := by omega
              have hd := dif_le fx fy j
              obtain ⟨bx, ox, hAx, cx⟩ := rd_at9 HF.out.r hlt
              obtain ⟨by', oy, hAy, cy⟩ := rd_at9 HF.out.r1 hlt
              rw [FX.out j] at cx
              rw [FY.out j] at cy
              have gx := HF.out.mx
              have gy := HF.out.my
              rw [hAx] at gx
              rw [hAy] at gy
              clear hAx hAy
              go_upto_region 15 with fail
              refine wp_region_still_lit (by kernel_rfl) (by kernel_rfl) ?_
              repeat (first | still_step | (refine wpStill_step (fun K hK => ?_); rw [if_pos (by kernel_rfl)]; go_simp; refine hK _ ?_; clear hK K))
              refine wpStill_nil ?_
              replace HF := Lib.hid (HF.out.after (Below.refl _ _).drew)
              clear gx gy cx cy
              by_cases hxy : fx j = fy j
              · have hd2 := dif_yes hxy
                have e1 : (fx j != fy j) = false := bne_eq_false_iff_eq.2 hxy
                go_wp2_with fail
                go_roundw
                case rel => exact ⟨j + 1, by omega, by go_num, by rw [hd2], HF⟩
                case measure => simp [intOf]; omega
              · have hd2 := dif_no hxy
                have e1 : (fx j != fy j) = true := bne_iff_ne.2 hxy
                go_wp2_with fail
                go_roundw
                case rel => exact ⟨j + 1, by omega, by go_num, by rw [hd2]; go_num, HF⟩
                case measure => simp [intOf]; omega
            · obtain rfl : j = n := by omega
              have i1 : ¬ (j : Int) < (j : Int) := by omega
              have gx := HF.out.mx
              have gox := HF.out.ox
              have goy := HF.out.oy
              go_upto_region 18 with fail
              obtain ⟨f1, f2, f3, f4, f5⟩ := FR.out
              obtain ⟨D, hD⟩ : ∃ D : Nat, y.out.size - x.out.size = D := ⟨_, rfl⟩
              obtain ⟨U, hU⟩ : ∃ U : Nat, dif fx fy j = U := ⟨_, rfl⟩
              rw [hD, hU] at f1
              rw [hU] at f4
              have fD : wrap64 ((y.out.size : Int) - (x.out.size : Int)) = (D : Int) := by unfold wrap64; omega
              rw [fD, hU] at ⊢
              have fz : y.out.size = x.out.size ↔ D = 0 := by omega
              rw [fz] at f4
              have e1 : decide ((D : Int) < 0) = false := decide_eq_false (by omega)
              have e2 : decide ((1 : Int) < (D : Int)) = false := decide_eq_false (by omega)
              have s1 : IntKind.i64.wrap ((R : Int) + (U : Int)) = (R : Int) + (U : Int) := by rw [IntKind.wrap_i64]; omega
              have s2 : IntKind.i64.wrap ((R : Int) + (U : Int) + (D : Int)) = (R : Int) + (U : Int) + (D : Int) := by rw [IntKind.wrap_i64]; omega
              have e4 : decide ((1 : Int) < (R : Int) + (U : Int) + (D : Int)) = false := decide_eq_false (by omega)
              have l1 : (x.out.size : Int) ≤ (y.out.size : Int) := by omega
              have F4 := Lib.hid f4
              have F5 := Lib.hid f5
              have F1 := Lib.hid f1
              clear f1 f2 f4 f5 hD hU fD fz
              refine wp_region_still_lit (by kernel_rfl) (by kernel_rfl) ?_
              repeat (first | still_step | (refine wpStill_step (fun K hK => ?_); rw [if_pos (by kernel_rfl)]; go_simp; refine hK _ ?_; clear hK K))
              refine wpStill_nil ?_
              replace HF := Lib.hid (HF.out.after (Below.refl _ _).drew)
              clear gx gox goy
              rcases F4.out with hrd | ⟨hrd, ⟨hr0, hr1⟩, rfl, rfl⟩
              · have HRD := Lib.hid hrd
                clear hrd F4
                rcases F5.out with hst | hst
                · have HST := Lib.hid hst
                  clear hst F5
                  go_wp2_with fail
                  refine (awake9 _ (HT.out.below HF.out.k.be.plain)).mono ?_
                  rintro e w2 ⟨rfl, hb⟩
                  replace HF := Lib.hid (HF.out.after hb)
                  have gx := HF.out.rx
                  have gy := HF.out.ry
                  have sx := HF.out.sx
                  have sy := HF.out.sy
                  rw [HRD.out] at gy
                  rw [HST.out] at sy
                  clear hb
                  go_wp2_with fail
                  go_ret
                  exact ⟨rfl, HF.out.k.be.plain⟩
                · have HST := Lib.hid hst
                  clear hst F5
                  go_wp2_with fail
                  refine (awake9 _ (HT.out.below HF.out.k.be.plain)).mono ?_
                  rintro e w2 ⟨rfl, hb⟩
                  replace HF := Lib.hid (HF.out.after hb)
                  have gx := HF.out.rx
                  have gy := HF.out.ry
                  have sx := HF.out.sx
                  have sy := HF.out.sy
                  rw [HRD.out] at gy
                  rw [HST.out] at sy
                  have q2 : (x.st + 1 == x.st) = false := beq_eq_false_iff_ne.2 (by omega)
                  clear hb
                  go_wp2_with fail
                  go_ret
                  exact ⟨rfl, HF.out.k.be.plain⟩
              · have HRD := Lib.hid hrd
                clear hrd F4
                rcases F5.out with hst | hst
                · have HST := Lib.hid hst
                  clear hst F5
                  go_wp2_with fail
                  refine (awake9 _ (HT.out.below HF.out.k.be.plain)).mono ?_
                  rintro e w2 ⟨rfl, hb⟩
                  replace HF := Lib.hid (HF.out.after hb)
                  have gx := HF.out.rx
                  have gy := HF.out.ry
                  have sx := HF.out.sx
                  have sy := HF.out.sy
                  rw [HRD.out] at gy
                  rw [HST.out] at sy
                  have q1 : (x.rd + 1 == x.rd) = false := beq_eq_false_iff_ne.2 (by omega)
                  clear hb
                  go_wp2_with fail
                  go_ret
                  exact ⟨rfl, HF.out.k.be.plain⟩
                · have HST := Lib.hid hst
                  clear hst F5
                  go_wp2_with fail
                  refine (awake9 _ (HT.out.below HF.out.k.be.plain)).mono ?_
                  rintro e w2 ⟨rfl, hb⟩
                  replace HF := Lib.hid (HF.out.after hb)
                  have gx := HF.out.rx
                  have gy := HF.out.ry
                  have sx := HF.out.sx
                  have sy := HF.out.sy
                  rw [HRD.out] at gy
                  rw [HST.out] at sy
                  have q1 : (x.rd + 1 == x.rd) = false := beq_eq_false_iff_ne.2 (by omega)
                  have q2 : (x.st + 1 == x.st) = false := beq_eq_false_iff_ne.2 (by omega)
                  clear hb
                  go_wp2_with fail
                  go_ret
                  exact ⟨rfl, HF.out.k.be.plain⟩
  · have cs := CS.out
    rw [decide_eq_false hsm] at cs
    replace CS := Lib.hid cs
    clear cs
    go_enter Tryd.func7, Tryd.ntmps7
    go_wp2_with (first
      | (refine wpList_load_midg (by rfl) 30 _ rfl _ 3 rfl _ _ (asr_range g0.out) Tryd.underlying30 rfl (infoS2 rfl) ?_)
      | fail)
    refine (CS.out _).mono ?_
    rintro e w1 ⟨rfl, hb⟩
    replace HK := Lib.hid (HK.out.after hb)
    clear hb
    clear a0 a1 a2 g0
    go_wp2_with fail
    refine (awake9 _ (HT.out.below HK.out.be.plain)).mono ?_
    rintro e w2 ⟨rfl, hb⟩
    replace HK := Lib.hid (HK.out.after hb)
    clear hb
    go_wp2_with fail
    go_ret
    exact ⟨rfl, HK.out.be.plain⟩

set_option maxRecDepth 100000 in
theorem contract (H : Type) (enc : TypeId × Value → H) (W : World) (base : Nat) (args : Array Value) (ds gs : List (DataW H)) (before : List MemPlace)
    (hval : ∀ (j : Nat) t v, Tryd.f7.params[j]? = some t → args[j]? = some v → Value.okWide Tryd.prog W .any base t v)
    (hW : DataW.Whole enc Tryd.prog Tryd.f7.params.toList Rows.machineFramesSpec.vars false W args.toList ds gs before) (hL : laidMetH Tryd.prog Rows.machineFramesRow.laid W) :
    Calls Tryd.prog 7 args W fun e W' => ∃ v, e = .returned v ∧ Rows.machineFramesSpec.post enc Tryd.prog Tryd.f7 false true false false W args v W' := by
  have hW' := hW
  obtain ⟨p, q, hA0, hV, rfl, hfz, hnd⟩ := hW
  have hA : DataW.TrodAll enc Tryd.prog W 0 (fun _ => true) true Tryd.f7.params.toList args.toList ds p := hA0
  rw [Tryd.params7] at hA hval
  obtain ⟨v0, vs0, d0, ds0, p0, q0, hargs, rfl, rfl, h0, r0⟩ := trodAll_cons hA
  obtain ⟨rfl, rfl, rfl⟩ := trodAll_nil r0
  obtain rfl : args = #[v0] := by cases args; simp_all
  obtain ⟨rfl, rfl⟩ := trodVars_none hV
  have lt0 : ∀ x ∈ p0, x.block < W.heap.size := by obtain ⟨m, hm⟩ := h0; exact DataW.trod_lt m _ _ _ hm
  obtain ⟨B, m, k, code, d, inp, A, n, c, x, rfl, hM, wd, hi, hS⟩ := open_ask9 (hval 0 34 v0 rfl rfl) h0
  clear hA0
  refine (walk  W hM hS (tabs_of hL)).mono fun e W' ⟨he, bel⟩ => ?_
  subst he
  exact ⟨_, rfl, _, _, _, [], _, [], hW', trodAll_mk1 (shut_bool Tryd.underlying4 _), (trodAll_cons_mk (Below.trod laidOut (by kernel_rfl) (of_decide_eq_true (by kernel_rfl)) h0 bel lt0) trodAll_mk0), rfl, bel.frame _, fun h => by cases h⟩

theorem laid_met (os : Os) : laidMet Tryd.prog Rows.machineFramesRow.laid ((laidWorld os).forCall (fun _ _ => 0) ⟨#[], #[.agg #[.slice none 0 0, .int .i64 0, .string ByteArray.empty, .int .i64 0, .int .u32 0, .int .u32 0, .int .u32 0, .int .u32 0, .int .u32 0, .int .u32 0, .int .u32 0, .int .u32 0, .int .u32 0, .int .u32 0, .int .u32 0, .int .u32 0, .int .u32 0, .int .u32 0, .int .u32 0, .int .u32 0, .slice none 0 0, .int .i64 0, .string ByteArray.empty, .int .i64 0, .int .i64 0]], []⟩).memory :=
  laidMet_of_run' 8 (by kernel_rfl) (by kernel_rfl)
theorem reads (os : Os) {H : Type} (enc : TypeId × Value → H) : ∃ places, DataW.whole enc Tryd.prog ((laidWorld os).forCall (fun _ _ => 0) ⟨#[], #[.agg #[.slice none 0 0, .int .i64 0, .string ByteArray.empty, .int .i64 0, .int .u32 0, .int .u32 0, .int .u32 0, .int .u32 0, .int .u32 0, .int .u32 0, .int .u32 0, .int .u32 0, .int .u32 0, .int .u32 0, .int .u32 0, .int .u32 0, .int .u32 0, .int .u32 0, .int .u32 0, .int .u32 0, .slice none 0 0, .int .i64 0, .string ByteArray.empty, .int .i64 0, .int .i64 0]], []⟩).memory Tryd.f7.params.toList Rows.machineFramesSpec.vars false (#[.agg #[.slice none 0 0, .int .i64 0, .string ByteArray.empty, .int .i64 0, .int .u32 0, .int .u32 0, .int .u32 0, .int .u32 0, .int .u32 0, .int .u32 0, .int .u32 0, .int .u32 0, .int .u32 0, .int .u32 0, .int .u32 0, .int .u32 0, .int .u32 0, .int .u32 0, .int .u32 0, .int .u32 0, .slice none 0 0, .int .i64 0, .string ByteArray.empty, .int .i64 0, .int .i64 0]] : Array Value).toList 8 = some ([.agg [.agg [.nil, .lit (.int .i64 0)], .lit (.string []), .agg [.lit (.int .i64 0), .agg [.lit (.int .u32 0), .lit (.int .u32 0), .lit (.int .u32 0), .lit (.int .u32 0), .lit (.int .u32 0), .lit (.int .u32 0), .lit (.int .u32 0), .lit (.int .u32 0), .lit (.int .u32 0), .lit (.int .u32 0), .lit (.int .u32 0), .lit (.int .u32 0), .lit (.int .u32 0), .lit (.int .u32 0), .lit (.int .u32 0), .lit (.int .u32 0)], .nil, .lit (.int .i64 0), .lit (.string []), .lit (.int .i64 0), .lit (.int .i64 0)]]], [], places) :=
  ⟨[], by kernel_rfl⟩

set_option maxRecDepth 100000 in
theorem lifted (os : Os) (started : os.Started) (H : Type) (enc : TypeId × Value → H) (F : Stop.Interp) :
    ReturnsInHanded {} Tryd.checked os 7 .any ((OpenSpec.ofChange Rows.machineFramesSpec).preRow enc Tryd.prog Tryd.f7 Rows.machineFramesRow.domain false Rows.machineFramesRow.laid) (((OpenSpec.ofChange Rows.machineFramesSpec).at F).post enc Tryd.prog Tryd.f7 false true false false) := by
  obtain ⟨places, hx⟩ := reads os enc
  refine returnsInHanded_of_row (C := Tryd.checked) (s := OpenSpec.ofChange Rows.machineFramesSpec) own started (by kernel_rfl) Tryd.func7
    (witness_row_at (enc := enc) (C := Tryd.checked) false (laidWorld os) #[.agg #[.slice none 0 0, .int .i64 0, .string ByteArray.empty, .int .i64 0, .int .u32 0, .int .u32 0, .int .u32 0, .int .u32 0, .int .u32 0, .int .u32 0, .int .u32 0, .int .u32 0, .int .u32 0, .int .u32 0, .int .u32 0, .int .u32 0, .int .u32 0, .int .u32 0, .int .u32 0, .int .u32 0, .slice none 0 0, .int .i64 0, .string ByteArray.empty, .int .i64 0, .int .i64 0]] rfl (by kernel_rfl) (by kernel_rfl) (by kernel_rfl)
      (OpenSpec.preRow_of_cond 8 hx (by kernel_rfl) (fun k hk => by cases hk) (by kernel_rfl) (laid_met os))) ?_
  intro W base args ds gs before hval hW _ _ _ hL _ _
  exact contract H enc W base args ds gs before hval hW hL

theorem said : Rows.MachineFramesSaid :=
  OpenClaim.holds_of_cond 7 Tryd.f7 rfl rfl rfl rfl rfl rfl rfl ⟨rfl, rfl, rfl, rfl, rfl⟩ rfl rfl rfl rfl rfl (by kernel_rfl) Tryd.func7 (by kernel_rfl)
    (of_decide_eq_true (by kernel_rfl)) (by unfold Func.isWrapper; first | (rw [if_pos (by decide +kernel)]; kernel_rfl) | (rw [if_neg (by decide +kernel)]; exact ⟨rfl, rfl⟩))
    (fun os started H enc _ F => by rw [OpenClaim.pre_eq_preRow]; exact lifted os started H enc F)

theorem plain (f : FuncId) (fn : Func) (hf : Tryd.pinned.checked.prog.funcNamed "seedcorn/seedcornlaw09.MachineFrames" = some f) (hfn : Tryd.pinned.checked.prog.funcs[f]? = some fn) :
    false = Tryd.pinned.checked.prog.looks [] ∧ ∀ (j : Nat) t, fn.params[j]? = some t → Tryd.pinned.checked.prog.wantsStandIn t = false := by
  obtain rfl : f = 7 := Option.some.inj ((show Tryd.prog.funcNamed "seedcorn/seedcornlaw09.MachineFrames" = some 7 by kernel_rfl).symm.trans hf) |>.symm
  obtain rfl : fn = Tryd.f7 := (Option.some.inj (Tryd.func7.symm.trans hfn)).symm
  refine ⟨by kernel_rfl, fun j t ht => ?_⟩
  rw [Tryd.params7] at ht
  have hm := Array.mem_of_getElem? ht
  have hm' : t = 34 := by simpa using hm
  rcases hm' with rfl
  · exact (show Tryd.prog.wantsStandIn 34 = false by kernel_rfl)

/-- The card. -/
theorem card : Rows.MachineFramesCardSaid :=
  Claim7.holds_tied_plain_at .later [] _ _ _ _ said (fun _ h => by cases h) (by kernel_rfl) (fun _ h => by cases h) machineFrames_row_tie rfl ⟨rfl, rfl⟩ (by kernel_rfl) rfl plain (by kernel_rfl)
end Go.Proofs.YtgojpflkhnaedaaDoor.machineFrames
