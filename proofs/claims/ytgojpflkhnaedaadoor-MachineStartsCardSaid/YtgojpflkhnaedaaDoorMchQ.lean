/- The document's examples of layer 9 hold: the contract of the laws' awake. -/
import Derived.Test.YtgojpflkhnaedaaDoorMchS
import Derived.Deep.RegionHeld3
set_option linter.unusedVariables false
namespace Go.Proofs.YtgojpflkhnaedaaDoor
open Go.RowKit

theorem one_rd9 {W : World} {b : Nat} {x : Int} (h : W.heap[b]? = some (.cells #[.int .u32 x] 27 (0, 0))) (hx : 0 ≤ x ∧ x < 4294967296) : Rd W (some ⟨b, 0, none⟩) 1 [x] := by
  refine ⟨rfl, .inr ⟨b, 0, rfl, (Array.getElem?_eq_some_iff.1 h).1, fun j hj => ?_⟩, fun j => ?_⟩
  · obtain rfl : j = 0 := by omega
    simp [World.cell?, h]
  · match j with
    | 0 => exact hx
    | k + 1 => simp
/-- The machine's first example: no code. -/
theorem ex_none : nxt [] ⟨#[]⟩ (mst0 0) = ⟨0, fun _ => 0, [], 0, ⟨#[]⟩, 0, 7⟩ := nxt_out (.inr (by decide))
theorem ex_rgt : rgt 26 0 0 0 = true := by decide
theorem ex_halt : nxt [436207616] ⟨#[]⟩ (mst0 2) = ⟨0, fun _ => 0, [0, 0], 0, ⟨#[]⟩, 1, 1⟩ := by
  have h := nxt_op (code := [436207616]) (inp := ⟨#[]⟩) (p := 0) (g := fun _ => 0) (mem := [0, 0]) (rd := 0) (st := 0) (out := ⟨#[]⟩) (v := 436207616) (o := 26) (a := 0) (b := 0) (c := 0) (by decide) rfl rfl rfl rfl rfl
  rw [ex_rgt] at h
  have e : mst0 2 = ⟨((0 : Nat) : Int), fun _ => 0, [0, 0], 0, ⟨#[]⟩, 0, 0⟩ := by
    unfold mst0 zer
    rfl
  rw [e, h, if_pos rfl]
  simp [xop]
  rfl
theorem wg0 : Wg (fun _ => 0) := fun _ => ⟨Int.le_refl 0, (by decide : (0 : Int) < 4294967296)⟩
theorem all42 {p : Option Nat} {w W : World} {q : Nat} {t : TypeId} {v0 v1 : Value} {x0 x1 : Nat × Obj} {bs : List (Nat × Obj)} (h : Kx p w W (x0 :: x1 :: (q, .cells #[v0, v1] t (0, 0)) :: bs)) : W.cell? ⟨q, 0, none⟩ = some v0 ∧ W.cell? ⟨q, 1, none⟩ = some v1 :=
  ⟨row_cell (h.at 2 rfl) 0 rfl, row_cell (h.at 2 rfl) 1 rfl⟩
theorem range22 {W : World} {b : Nat} {t : TypeId} {cs : Array Value} (h : W.heap[b]? = some (.cells cs t (0, 0))) : W.rangeAt b 0 cs.toList := fun j v hv => by
  rw [Nat.zero_add]
  exact row_cell h j (by simpa using hv)
/-- Step at the example's two states. -/
theorem ex_step0 (W : World) (A : Option Addr) (n c : Nat) (hT : Tabs W) (hR : Rd W A n (zer 0)) (h1 : n ≤ c) (h2 : c ≤ maxLen) :
    Calls Tryd.prog 15 #[.agg #[.slice none 0 0, .int .i64 0], .string ⟨#[]⟩, .agg (stc 0 (fun _ => 0) (.slice A n c) 0 ⟨#[]⟩ 0 0)] W fun e w' => ∃ A' c', e = .returned (.agg (stc 0 (fun _ => 0) (.slice A' n c') 0 ⟨#[]⟩ 0 7)) ∧ Rd w' A' n [] ∧ n ≤ c' ∧ c' ≤ maxLen ∧ Frs W A A' ∧ Below W.heap.size W w' := by
  have h0 : n = 0 := hR.1.symm
  have h := step9 (B := none) (m := 0) (k := 0) (d := 0) (code := []) (A := A) (n := n) (c := c) ⟨#[]⟩ (mst0 0) W hT ⟨rfl, .inl rfl, fun j => by simp⟩ (by omega) hR (by omega) h1 h2 wg0 (by decide) (by decide)
  rw [ex_none] at h
  refine h.mono ?_
  rintro e w' ⟨v, rfl, ⟨A', c', rfl, hr, h3, h4, hf⟩, hb⟩
  exact ⟨A', c', rfl, hr, h3, h4, hf, hb⟩
theorem ex_step2 (W : World) (q : Nat) (A : Option Addr) (n c : Nat) (hT : Tabs W) (hq : Rd W (some ⟨q, 0, none⟩) 1 [436207616]) (hR : Rd W A n (zer 2)) (h1 : n ≤ c) (h2 : c ≤ maxLen) :
    Calls Tryd.prog 15 #[.agg #[.slice (some ⟨q, 0, none⟩) 1 1, .int .i64 2], .string ⟨#[]⟩, .agg (stc 0 (fun _ => 0) (.slice A n c) 0 ⟨#[]⟩ 0 0)] W fun e w' => ∃ A' c', e = .returned (.agg (stc 0 (fun _ => 0) (.slice A' n c') 0 ⟨#[]⟩ 1 1)) ∧ Rd w' A' n [0, 0] ∧ n ≤ c' ∧ c' ≤ maxLen ∧ Frs W A A' ∧ Below W.heap.size W w' := by
  have h0 : n = 2 := hR.1.symm
  have h := step9 (B := some ⟨q, 0, none⟩) (m := 1) (k := 1) (d := 2) (code := [436207616]) (A := A) (n := n) (c := c) ⟨#[]⟩ (mst0 2) W hT hq (by omega) hR (by omega) h1 h2 wg0 (by decide) (by decide)
  rw [ex_halt] at h
  refine h.mono ?_
  rintro e w' ⟨v, rfl, ⟨A', c', rfl, hr, h3, h4, hf⟩, hb⟩
  exact ⟨A', c', rfl, hr, h3, h4, hf, hb⟩
set_option maxRecDepth 100000 in
set_option maxHeartbeats 4000000 in
theorem awake9 (w : World) (ht : Tabs w) :
    Calls Tryd.prog 10 #[] w fun e w' => e = .returned (.bool true) ∧ Below w.heap.size w w' := by
  have c1 := fun w => encode_ref 26 0 0 0 w
  rw [show ecv 26 0 0 0 = 436207616 from by decide, show ece 26 0 0 0 = 0 from by decide] at c1
  have C1 := Lib.hid c1
  have HT := Lib.hid ht
  clear c1 ht
  go_enter Tryd.func10, Tryd.ntmps10
  go_wp2_with fail
  refine (C1.out _).mono ?_
  rintro e w1 ⟨rfl, hb⟩
  have HK := Lib.hid ((Kx.nil none w).after hb)
  clear hb
  go_wp2_with fail
  refine (start9 _).mono ?_
  rintro e w2 ⟨A2, n2, k2, rfl, hr2, h2a, h2b, _, hb⟩
  replace HK := Lib.hid (HK.out.after hb)
  have S2 := Lib.hid (ex_step0 w2 A2 n2 k2 (HT.out.below HK.out.be.plain) hr2 h2a h2b)
  clear hb hr2
  go_wp2_with fail
  refine S2.out.mono ?_
  rintro e w3 ⟨A3, k3, rfl, hr3, h3a, h3b, _, hb⟩
  obtain rfl : n2 = 0 := hr3.1.symm
  replace HK := Lib.hid (HK.out.after hb)
  obtain ⟨q3, hq3⟩ : ∃ q, w3.heap.size = q := ⟨_, rfl⟩
  have ka := HK.out.add q3 hq3 (.cells #[.int .i64 0, .int .u32 0, .int .u32 0, .int .u32 0, .int .u32 0, .int .u32 0, .int .u32 0, .int .u32 0, .int .u32 0, .int .u32 0, .int .u32 0, .int .u32 0, .int .u32 0, .int .u32 0, .int .u32 0, .int .u32 0, .int .u32 0, .slice none 0 0, .int .i64 0, .string ⟨#[]⟩, .int .i64 0, .int .i64 0] 30 (0, 0))
  obtain ⟨W3, hW3⟩ : ∃ W, w3.alloc (.cells #[.int .i64 0, .int .u32 0, .int .u32 0, .int .u32 0, .int .u32 0, .int .u32 0, .int .u32 0, .int .u32 0, .int .u32 0, .int .u32 0, .int .u32 0, .int .u32 0, .int .u32 0, .int .u32 0, .int .u32 0, .int .u32 0, .int .u32 0, .slice none 0 0, .int .i64 0, .string ⟨#[]⟩, .int .i64 0, .int .i64 0] 30 (0, 0)) = W := ⟨_, rfl⟩
  have hge : w.heap.size ≤ q3 := by rw [← hq3]; exact HK.out.be.size
  rw [hW3] at ka
  have kb := ka.putRow 0 rfl (.inr hge) (stc 0 (fun _ => 0) (.slice A3 0 k3) 0 ⟨#[]⟩ 0 7)
  have g1 := Lib.hid (ka.at 0 rfl)
  have S1 : Hid ((stc 0 (fun _ => 0) (.slice A3 0 k3) 0 ⟨#[]⟩ 0 7).all (·.oneCell') = true) := Lib.hid (stc_one _ _ _ _ _ _ _ _ _)
  obtain ⟨W4, hW4⟩ : ∃ W, W3.setRow q3 (stc 0 (fun _ => 0) (.slice A3 0 k3) 0 ⟨#[]⟩ 0 7) = W := ⟨_, rfl⟩
  rw [hW4] at kb
  replace HK := Lib.hid kb
  clear ka kb hb S2 hr3
  go_upto_region 3 with (refine wpList_store_rowTo rfl 30 _ _ rfl rfl _ _ rfl rfl 30 _ g1.out (infoS2 rfl) rfl S1.out ?_)
  clear hW3 hq3 g1 S1
  rw [hW4]
  clear hW4
  obtain ⟨q5, hq5⟩ : ∃ q, W4.heap.size = q := ⟨_, rfl⟩
  replace HK := Lib.hid (HK.out.add q5 hq5 (.cells #[.int .u32 436207616] 27 (0, 0)))
  obtain ⟨W6, hW6⟩ : ∃ W, W4.alloc (.cells #[.int .u32 436207616] 27 (0, 0)) = W := ⟨_, rfl⟩
  rw [hW6] at HK
  obtain ⟨q6, hq6⟩ : ∃ q, W6.heap.size = q := ⟨_, rfl⟩
  replace HK := Lib.hid (HK.out.add q6 hq6 (.cells #[.slice (some ⟨q5, 0, none⟩) 1 1, .int .i64 2] 24 (0, 0)))
  obtain ⟨W5, hW5⟩ : ∃ W, W6.alloc (.cells #[.slice (some ⟨q5, 0, none⟩) 1 1, .int .i64 2] 24 (0, 0)) = W := ⟨_, rfl⟩
  rw [hW5] at HK
  go_upto_region 4 with fail
  clear hW5 hW6 hq5 hq6
  replace HK := Lib.hid HK.out.drew
  refine wp_region_held_drew (S := fun W => W.cell? ⟨q6, 0, none⟩ = some (.slice (some ⟨q5, 0, none⟩) 1 1) ∧ W.cell? ⟨q6, 1, none⟩ = some (.int .i64 2)) (by kernel_rfl) ?hsx1 (fun hH => ?restx1)
  case hsx1 => (try dsimp only); with_reducible exact all42 HK.out
  obtain ⟨w4, hw4⟩ : ∃ W, W5.drew = W := ⟨_, rfl⟩
  rw [hw4] at HK hH ⊢
  clear hw4
  refine wpAnyH_take (i := 0) (v := ?vx3) (by exact op_at rfl) (by kernel_rfl) (by kernel_rfl) (by kernel_rfl) (by exact fun _ _ _ h => h) (Or.inl ⟨by rfl, ?hyx3⟩) hH ?restx3
  case hyx3 => (intro w' hSw; (try dsimp only at hSw); go_simp <;> with_reducible rfl)
  (try simp only [Act.put, List.setIfInBounds_toArray, List.set_cons_zero, List.set_cons_succ])
  refine wpAnyH_take (i := 1) (v := ?vx4) (by exact op_at rfl) (by kernel_rfl) (by kernel_rfl) (by kernel_rfl) (by exact fun _ _ _ h => h) (Or.inl ⟨by rfl, ?hyx4⟩) hH ?restx4
  case hyx4 => (intro w' hSw; (try dsimp only at hSw); go_simp <;> with_reducible rfl)
  (try simp only [Act.put, List.setIfInBounds_toArray, List.set_cons_zero, List.set_cons_succ])
  refine wpAnyH_ready (rs := [2, 4]) (by kernel_rfl) (by simp) ?_
  refine AllReadyH.cons (op_at rfl) (fun K hK => ?z5) ?z5c
  case z5 =>
    go_simp
    go_at_call 12
    (with_reducible refine (start9 _).mono ?_)
    rintro e w5 ⟨A5, n5, k5, rfl, hr5, h5a, h5b, hf5, hb5⟩
    obtain rfl : 2 = n5 := hr5.1
    replace HK := Lib.hid (HK.out.after hb5)
    clear hb5 hf5
    go_simp
    refine hK.out _ _ ?hsx6 (fun hN => ?restx6)
    case hsx6 => (try dsimp only); with_reducible exact all42 HK.out
    clear hK K hH
    have hH := hN
    clear hN
    (try simp only [Act.put, List.setIfInBounds_toArray, List.set_cons_zero, List.set_cons_succ])
    refine wpAnyH_ready (rs := [3, 4]) (by kernel_rfl) (by simp) ?_
    refine AllReadyH.cons (op_at rfl) (fun K hK => ?z7) ?z7c
    case z7 =>
      go_simp
      go_at_call 15
      (with_reducible refine (ex_step2 _ q5 A5 2 k5 (HT.out.below HK.out.be.plain) (one_rd9 (HK.out.at 1 rfl) (by omega)) hr5 h5a h5b).mono ?_)
      rintro e w6 ⟨A6, k6, rfl, hr6, h6a, h6b, hf6, hb6⟩
      replace HK := Lib.hid (HK.out.after hb6)
      clear hb6 hf6 hr5
      go_simp
      refine hK.out _ _ ?hsx8 (fun hN => ?restx8)
      case hsx8 => (try dsimp only); with_reducible exact all42 HK.out
      clear hK K hH
      have hH := hN
      clear hN
      (try simp only [Act.put, List.setIfInBounds_toArray, List.set_cons_zero, List.set_cons_succ])
      refine wpAnyH_ready (rs := [4]) (by kernel_rfl) (by simp) ?_
      refine AllReadyH.cons (op_at rfl) (fun K hK => ?_) AllReadyH.nil
      go_simp
      obtain ⟨q7, hq7⟩ : ∃ q, w6.heap.size = q := ⟨_, rfl⟩
      have hge7 : w.heap.size ≤ q7 := by rw [← hq7]; exact HK.out.be.size
      replace HK := Lib.hid (HK.out.add q7 hq7 (.cells #[.int .i64 0, .int .u32 0, .int .u32 0, .int .u32 0, .int .u32 0, .int .u32 0, .int .u32 0, .int .u32 0, .int .u32 0, .int .u32 0, .int .u32 0, .int .u32 0, .int .u32 0, .int .u32 0, .int .u32 0, .int .u32 0, .int .u32 0, .slice none 0 0, .int .i64 0, .string ⟨#[]⟩, .int .i64 0, .int .i64 0] 30 (0, 0)))
      have hoff : Off A6 q7 := (hr6.off (Nat.le_of_eq hq7)).resolve_left (by omega)
      obtain ⟨w7, hw7⟩ : ∃ W, w6.alloc (.cells #[.int .i64 0, .int .u32 0, .int .u32 0, .int .u32 0, .int .u32 0, .int .u32 0, .int .u32 0, .int .u32 0, .int .u32 0, .int .u32 0, .int .u32 0, .int .u32 0, .int .u32 0, .int .u32 0, .int .u32 0, .int .u32 0, .int .u32 0, .slice none 0 0, .int .i64 0, .string ⟨#[]⟩, .int .i64 0, .int .i64 0] 30 (0, 0)) = W := ⟨_, rfl⟩
      replace hr6 := hr6.below ((Below.refl _ _).alloc (Nat.le_refl _) (.cells #[.int .i64 0, .int .u32 0, .int .u32 0, .int .u32 0, .int .u32 0, .int .u32 0, .int .u32 0, .int .u32 0, .int .u32 0, .int .u32 0, .int .u32 0, .int .u32 0, .int .u32 0, .int .u32 0, .int .u32 0, .int .u32 0, .int .u32 0, .slice none 0 0, .int .i64 0, .string ⟨#[]⟩, .int .i64 0, .int .i64 0] 30 (0, 0)))
      (try rw [hq7])
      rw [hw7] at hr6 HK ⊢
      clear hw7 hq7
      refine hK.out _ _ ?hsx9 (fun hN => ?restx9)
      case hsx9 => (try dsimp only); with_reducible exact all42 HK.out
      clear hK K hH
      have hH := hN
      clear hN
      (try simp only [Act.put, List.setIfInBounds_toArray, List.set_cons_zero, List.set_cons_succ])
      refine wpAnyH_ready (rs := [5]) (by kernel_rfl) (by simp) ?_
      refine AllReadyH.cons (op_at rfl) (fun K hK => ?_) AllReadyH.nil
      have S1 : Hid ((stc 0 (fun _ => 0) (.slice A6 2 k6) 0 ⟨#[]⟩ 1 1).all (·.oneCell') = true) := Lib.hid (stc_one _ _ _ _ _ _ _ _ _)
      refine step_store_row9 rfl 30 _ _ rfl q7 (stc 0 (fun _ => 0) (.slice A6 2 k6) 0 ⟨#[]⟩ 1 1) (by rfl) (by rfl) 30 _ (HK.out.at 3 rfl) (infoS2 rfl) rfl S1.out ?_
      have HZ := Lib.hid (HK.out.putRow 3 rfl (.inr hge7) (stc 0 (fun _ => 0) (.slice A6 2 k6) 0 ⟨#[]⟩ 1 1))
      have hrz := Lib.hid (hr6.setRow hoff (stc 0 (fun _ => 0) (.slice A6 2 k6) 0 ⟨#[]⟩ 1 1))
      refine hK.out _ _ ?hsx10 (fun hN => ?restx10)
      case hsx10 => (try dsimp only); with_reducible exact all42 HZ.out
      clear hK K hH hr6 hoff HK S1
      simp only [Act.put]
      refine wpAnyH_done (by kernel_rfl) ?_ _
      obtain ⟨W8, hW8⟩ : ∃ W, w7.setRow q7 (stc 0 (fun _ => 0) (.slice A6 2 k6) 0 ⟨#[]⟩ 1 1) = W := ⟨_, rfl⟩
      rw [hW8] at HZ hrz ⊢
      clear hW8
      have u0 := row_cell (HZ.out.at 0 rfl) 21 (stc_en _ _ _ _ _ _ _)
      have u1 := row_cell (HZ.out.at 0 rfl) 20 (stc_st _ _ _ _ _ _ _)
      have x0 := row_cell (HZ.out.at 3 rfl) 21 (stc_en _ _ _ _ _ _ _)
      have x1 := row_cell (HZ.out.at 3 rfl) 20 (stc_st _ _ _ _ _ _ _)
      have x2 := row_cell (HZ.out.at 3 rfl) 0 (stc_pc _ _ _ _ _ _ _)
      have x3 := row_cell (HZ.out.at 3 rfl) 17 (stc_mem _ _ _ _ _ _ _)
      have g1 := Lib.hid (range22 (HZ.out.at 0 rfl))
      have g2 := Lib.hid (range22 (HZ.out.at 3 rfl))
      have CM := Lib.hid (same9 (c := k3) (e := k6) (n := 0) (m := 2) ⟨0, fun _ => 0, [], 0, ⟨#[]⟩, 0, 7⟩ ⟨0, fun _ => 0, [0, 0], 0, ⟨#[]⟩, 1, 1⟩ W8 (A := A3) ⟨rfl, .inl rfl, fun j => by simp⟩ hrz.out (by omega) (by omega))
      go_wp2_with (first
        | (refine wpList_load_midg (by rfl) 30 _ rfl _ 0 rfl _ _ g1.out Tryd.underlying30 rfl (infoS2 rfl) ?_)
        | (refine wpList_load_midg (by rfl) 30 _ rfl _ 0 rfl _ _ g2.out Tryd.underlying30 rfl (infoS2 rfl) ?_)
        | fail)
      refine CM.out.mono ?_
      rintro e w9 ⟨rfl, hb9⟩
      go_wp2_with fail
      go_ret
      exact ⟨rfl, (HZ.out.after hb9).be.plain⟩
    case z7c =>
      refine AllReadyH.cons (op_at rfl) (fun K hK => ?z13) ?z13c
      case z13 =>
        go_simp
        obtain ⟨q7, hq7⟩ : ∃ q, w5.heap.size = q := ⟨_, rfl⟩
        have hge7 : w.heap.size ≤ q7 := by rw [← hq7]; exact HK.out.be.size
        replace HK := Lib.hid (HK.out.add q7 hq7 (.cells #[.int .i64 0, .int .u32 0, .int .u32 0, .int .u32 0, .int .u32 0, .int .u32 0, .int .u32 0, .int .u32 0, .int .u32 0, .int .u32 0, .int .u32 0, .int .u32 0, .int .u32 0, .int .u32 0, .int .u32 0, .int .u32 0, .int .u32 0, .slice none 0 0, .int .i64 0, .string ⟨#[]⟩, .int .i64 0, .int .i64 0] 30 (0, 0)))
        have hoff : Off A5 q7 := (hr5.off (Nat.le_of_eq hq7)).resolve_left (by omega)
        obtain ⟨w7, hw7⟩ : ∃ W, w5.alloc (.cells #[.int .i64 0, .int .u32 0, .int .u32 0, .int .u32 0, .int .u32 0, .int .u32 0, .int .u32 0, .int .u32 0, .int .u32 0, .int .u32 0, .int .u32 0, .int .u32 0, .int .u32 0, .int .u32 0, .int .u32 0, .int .u32 0, .int .u32 0, .slice none 0 0, .int .i64 0, .string ⟨#[]⟩, .int .i64 0, .int .i64 0] 30 (0, 0)) = W := ⟨_, rfl⟩
        replace hr5 := hr5.below ((Below.refl _ _).alloc (Nat.le_refl _) (.cells #[.int .i64 0, .int .u32 0, .int .u32 0, .int .u32 0, .int .u32 0, .int .u32 0, .int .u32 0, .int .u32 0, .int .u32 0, .int .u32 0, .int .u32 0, .int .u32 0, .int .u32 0, .int .u32 0, .int .u32 0, .int .u32 0, .int .u32 0, .slice none 0 0, .int .i64 0, .string ⟨#[]⟩, .int .i64 0, .int .i64 0] 30 (0, 0)))
        (try rw [hq7])
        rw [hw7] at hr5 HK ⊢
        clear hw7 hq7
        refine hK.out _ _ ?hsx14 (fun hN => ?restx14)
        case hsx14 => (try dsimp only); with_reducible exact all42 HK.out
        clear hK K hH
        have hH := hN
        clear hN
        (try simp only [Act.put, List.setIfInBounds_toArray, List.set_cons_zero, List.set_cons_succ])
        refine wpAnyH_ready (rs := [3]) (by kernel_rfl) (by simp) ?_
        refine AllReadyH.cons (op_at rfl) (fun K hK => ?_) AllReadyH.nil
        go_simp
        go_at_call 15
        (with_reducible refine (ex_step2 _ q5 A5 2 k5 (HT.out.below HK.out.be.plain) (one_rd9 (HK.out.at 1 rfl) (by omega)) hr5 h5a h5b).mono ?_)
        rintro e w6 ⟨A6, k6, rfl, hr6, h6a, h6b, hf6, hb6⟩
        replace hoff : Off A6 q7 := hf6.off hoff (HK.out.lt 3 rfl)
        replace HK := Lib.hid (HK.out.after hb6)
        clear hb6 hf6 hr5
        go_simp
        refine hK.out _ _ ?hsx15 (fun hN => ?restx15)
        case hsx15 => (try dsimp only); with_reducible exact all42 HK.out
        clear hK K hH
        have hH := hN
        clear hN
        (try simp only [Act.put, List.setIfInBounds_toArray, List.set_cons_zero, List.set_cons_succ])
        refine wpAnyH_ready (rs := [5]) (by kernel_rfl) (by simp) ?_
        refine AllReadyH.cons (op_at rfl) (fun K hK => ?_) AllReadyH.nil
        have S1 : Hid ((stc 0 (fun _ => 0) (.slice A6 2 k6) 0 ⟨#[]⟩ 1 1).all (·.oneCell') = true) := Lib.hid (stc_one _ _ _ _ _ _ _ _ _)
        refine step_store_row9 rfl 30 _ _ rfl q7 (stc 0 (fun _ => 0) (.slice A6 2 k6) 0 ⟨#[]⟩ 1 1) (by rfl) (by rfl) 30 _ (HK.out.at 3 rfl) (infoS2 rfl) rfl S1.out ?_
        have HZ := Lib.hid (HK.out.putRow 3 rfl (.inr hge7) (stc 0 (fun _ => 0) (.slice A6 2 k6) 0 ⟨#[]⟩ 1 1))
        have hrz := Lib.hid (hr6.setRow hoff (stc 0 (fun _ => 0) (.slice A6 2 k6) 0 ⟨#[]⟩ 1 1))
        refine hK.out _ _ ?hsx16 (fun hN => ?restx16)
        case hsx16 => (try dsimp only); with_reducible exact all42 HZ.out
        clear hK K hH hr6 hoff HK S1
        simp only [Act.put]
        refine wpAnyH_done (by kernel_rfl) ?_ _
        obtain ⟨W8, hW8⟩ : ∃ W, w6.setRow q7 (stc 0 (fun _ => 0) (.slice A6 2 k6) 0 ⟨#[]⟩ 1 1) = W := ⟨_, rfl⟩
        rw [hW8] at HZ hrz ⊢
        clear hW8
        have u0 := row_cell (HZ.out.at 0 rfl) 21 (stc_en _ _ _ _ _ _ _)
        have u1 := row_cell (HZ.out.at 0 rfl) 20 (stc_st _ _ _ _ _ _ _)
        have x0 := row_cell (HZ.out.at 3 rfl) 21 (stc_en _ _ _ _ _ _ _)
        have x1 := row_cell (HZ.out.at 3 rfl) 20 (stc_st _ _ _ _ _ _ _)
        have x2 := row_cell (HZ.out.at 3 rfl) 0 (stc_pc _ _ _ _ _ _ _)
        have x3 := row_cell (HZ.out.at 3 rfl) 17 (stc_mem _ _ _ _ _ _ _)
        have g1 := Lib.hid (range22 (HZ.out.at 0 rfl))
        have g2 := Lib.hid (range22 (HZ.out.at 3 rfl))
        have CM := Lib.hid (same9 (c := k3) (e := k6) (n := 0) (m := 2) ⟨0, fun _ => 0, [], 0, ⟨#[]⟩, 0, 7⟩ ⟨0, fun _ => 0, [0, 0], 0, ⟨#[]⟩, 1, 1⟩ W8 (A := A3) ⟨rfl, .inl rfl, fun j => by simp⟩ hrz.out (by omega) (by omega))
        go_wp2_with (first
          | (refine wpList_load_midg (by rfl) 30 _ rfl _ 0 rfl _ _ g1.out Tryd.underlying30 rfl (infoS2 rfl) ?_)
          | (refine wpList_load_midg (by rfl) 30 _ rfl _ 0 rfl _ _ g2.out Tryd.underlying30 rfl (infoS2 rfl) ?_)
          | fail)
        refine CM.out.mono ?_
        rintro e w9 ⟨rfl, hb9⟩
        go_wp2_with fail
        go_ret
        exact ⟨rfl, (HZ.out.after hb9).be.plain⟩
      case z13c =>
        exact AllReadyH.nil
  case z5c =>
    refine AllReadyH.cons (op_at rfl) (fun K hK => ?z19) ?z19c
    case z19 =>
      go_simp
      obtain ⟨q7, hq7⟩ : ∃ q, w4.heap.size = q := ⟨_, rfl⟩
      have hge7 : w.heap.size ≤ q7 := by rw [← hq7]; exact HK.out.be.size
      replace HK := Lib.hid (HK.out.add q7 hq7 (.cells #[.int .i64 0, .int .u32 0, .int .u32 0, .int .u32 0, .int .u32 0, .int .u32 0, .int .u32 0, .int .u32 0, .int .u32 0, .int .u32 0, .int .u32 0, .int .u32 0, .int .u32 0, .int .u32 0, .int .u32 0, .int .u32 0, .int .u32 0, .slice none 0 0, .int .i64 0, .string ⟨#[]⟩, .int .i64 0, .int .i64 0] 30 (0, 0)))
      obtain ⟨w7, hw7⟩ : ∃ W, w4.alloc (.cells #[.int .i64 0, .int .u32 0, .int .u32 0, .int .u32 0, .int .u32 0, .int .u32 0, .int .u32 0, .int .u32 0, .int .u32 0, .int .u32 0, .int .u32 0, .int .u32 0, .int .u32 0, .int .u32 0, .int .u32 0, .int .u32 0, .int .u32 0, .slice none 0 0, .int .i64 0, .string ⟨#[]⟩, .int .i64 0, .int .i64 0] 30 (0, 0)) = W := ⟨_, rfl⟩
      (try rw [hq7])
      rw [hw7] at HK ⊢
      clear hw7 hq7
      refine hK.out _ _ ?hsx20 (fun hN => ?restx20)
      case hsx20 => (try dsimp only); with_reducible exact all42 HK.out
      clear hK K hH
      have hH := hN
      clear hN
      (try simp only [Act.put, List.setIfInBounds_toArray, List.set_cons_zero, List.set_cons_succ])
      refine wpAnyH_ready (rs := [2]) (by kernel_rfl) (by simp) ?_
      refine AllReadyH.cons (op_at rfl) (fun K hK => ?_) AllReadyH.nil
      go_simp
      go_at_call 12
      (with_reducible refine (start9 _).mono ?_)
      rintro e w5 ⟨A5, n5, k5, rfl, hr5, h5a, h5b, hf5, hb5⟩
      obtain rfl : 2 = n5 := hr5.1
      have hoff : Off A5 q7 := hf5.off (off_none q7) (HK.out.lt 3 rfl)
      replace HK := Lib.hid (HK.out.after hb5)
      clear hb5 hf5
      go_simp
      refine hK.out _ _ ?hsx21 (fun hN => ?restx21)
      case hsx21 => (try dsimp only); with_reducible exact all42 HK.out
      clear hK K hH
      have hH := hN
      clear hN
      (try simp only [Act.put, List.setIfInBounds_toArray, List.set_cons_zero, List.set_cons_succ])
      refine wpAnyH_ready (rs := [3]) (by kernel_rfl) (by simp) ?_
      refine AllReadyH.cons (op_at rfl) (fun K hK => ?_) AllReadyH.nil
      go_simp
      go_at_call 15
      (with_reducible refine (ex_step2 _ q5 A5 2 k5 (HT.out.below HK.out.be.plain) (one_rd9 (HK.out.at 1 rfl) (by omega)) hr5 h5a h5b).mono ?_)
      rintro e w6 ⟨A6, k6, rfl, hr6, h6a, h6b, hf6, hb6⟩
      replace hoff : Off A6 q7 := hf6.off hoff (HK.out.lt 3 rfl)
      replace HK := Lib.hid (HK.out.after hb6)
      clear hb6 hf6 hr5
      go_simp
      refine hK.out _ _ ?hsx22 (fun hN => ?restx22)
      case hsx22 => (try dsimp only); with_reducible exact all42 HK.out
      clear hK K hH
      have hH := hN
      clear hN
      (try simp only [Act.put, List.setIfInBounds_toArray, List.set_cons_zero, List.set_cons_succ])
      refine wpAnyH_ready (rs := [5]) (by kernel_rfl) (by simp) ?_
      refine AllReadyH.cons (op_at rfl) (fun K hK => ?_) AllReadyH.nil
      have S1 : Hid ((stc 0 (fun _ => 0) (.slice A6 2 k6) 0 ⟨#[]⟩ 1 1).all (·.oneCell') = true) := Lib.hid (stc_one _ _ _ _ _ _ _ _ _)
      refine step_store_row9 rfl 30 _ _ rfl q7 (stc 0 (fun _ => 0) (.slice A6 2 k6) 0 ⟨#[]⟩ 1 1) (by rfl) (by rfl) 30 _ (HK.out.at 3 rfl) (infoS2 rfl) rfl S1.out ?_
      have HZ := Lib.hid (HK.out.putRow 3 rfl (.inr hge7) (stc 0 (fun _ => 0) (.slice A6 2 k6) 0 ⟨#[]⟩ 1 1))
      have hrz := Lib.hid (hr6.setRow hoff (stc 0 (fun _ => 0) (.slice A6 2 k6) 0 ⟨#[]⟩ 1 1))
      refine hK.out _ _ ?hsx23 (fun hN => ?restx23)
      case hsx23 => (try dsimp only); with_reducible exact all42 HZ.out
      clear hK K hH hr6 hoff HK S1
      simp only [Act.put]
      refine wpAnyH_done (by kernel_rfl) ?_ _
      obtain ⟨W8, hW8⟩ : ∃ W, w6.setRow q7 (stc 0 (fun _ => 0) (.slice A6 2 k6) 0 ⟨#[]⟩ 1 1) = W := ⟨_, rfl⟩
      rw [hW8] at HZ hrz ⊢
      clear hW8
      have u0 := row_cell (HZ.out.at 0 rfl) 21 (stc_en _ _ _ _ _ _ _)
      have u1 := row_cell (HZ.out.at 0 rfl) 20 (stc_st _ _ _ _ _ _ _)
      have x0 := row_cell (HZ.out.at 3 rfl) 21 (stc_en _ _ _ _ _ _ _)
      have x1 := row_cell (HZ.out.at 3 rfl) 20 (stc_st _ _ _ _ _ _ _)
      have x2 := row_cell (HZ.out.at 3 rfl) 0 (stc_pc _ _ _ _ _ _ _)
      have x3 := row_cell (HZ.out.at 3 rfl) 17 (stc_mem _ _ _ _ _ _ _)
      have g1 := Lib.hid (range22 (HZ.out.at 0 rfl))
      have g2 := Lib.hid (range22 (HZ.out.at 3 rfl))
      have CM := Lib.hid (same9 (c := k3) (e := k6) (n := 0) (m := 2) ⟨0, fun _ => 0, [], 0, ⟨#[]⟩, 0, 7⟩ ⟨0, fun _ => 0, [0, 0], 0, ⟨#[]⟩, 1, 1⟩ W8 (A := A3) ⟨rfl, .inl rfl, fun j => by simp⟩ hrz.out (by omega) (by omega))
      go_wp2_with (first
        | (refine wpList_load_midg (by rfl) 30 _ rfl _ 0 rfl _ _ g1.out Tryd.underlying30 rfl (infoS2 rfl) ?_)
        | (refine wpList_load_midg (by rfl) 30 _ rfl _ 0 rfl _ _ g2.out Tryd.underlying30 rfl (infoS2 rfl) ?_)
        | fail)
      refine CM.out.mono ?_
      rintro e w9 ⟨rfl, hb9⟩
      go_wp2_with fail
      go_ret
      exact ⟨rfl, (HZ.out.after hb9).be.plain⟩
    case z19c =>
      exact AllReadyH.nil
end Go.Proofs.YtgojpflkhnaedaaDoor
