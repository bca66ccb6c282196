/- The law ImageGoesOn: for every image and words. No condition. -/
import Derived.Deep.DeepCutAuto
import Derived.StillTailTactics
import Derived.Test.YtmifiadkhmglmaaImgQ
import Derived.Test.YtmifiadkhmglmaaImgN
import Derived.Test.YtmifiadkhmglmaaImgW
namespace Go.Proofs.Ytmifiadkhmglmaa.imageGoesOn
open Go.ChangeShapes Go.WideShapes Go.ChangeAt Go.RowKit
open Go.ChangeMaps (open_string shut_string)
set_option linter.unusedVariables false

theorem own_cap {W : World} {B g n cap : Nat} {e : TypeId} {xs : List Value} (h : W.ownsRow B e 1 (.slice (some ⟨g, 0, none⟩) (0 + n) cap) (0 + n) xs) : n ≤ cap := by
  rcases h.2 with ⟨h, _⟩ | ⟨g', cap', cur, h, _, _, hc, _⟩
  · cases h
  · injection h with h1 h2 h3
    omega
theorem rd_news {W : World} {A : Option Addr} {n : Nat} {l : List Int} (hn : 0 < n) (h : Rd W A n l) : ∃ b off, A = some ⟨b, off, none⟩ ∧ ∀ j u, (l.map (Value.int .u32))[j]? = some u → W.cell? ((⟨b, off, none⟩ : Addr).add j) = some u := by
  rcases h.2.1 with h0 | ⟨b2, off2, e, _, hc⟩
  · omega
  · refine ⟨b2, off2, e, fun j u hu => ?_⟩
    have hj : j < l.length := by have := (List.getElem?_eq_some_iff.1 hu).1; simpa using this
    have hx := hc j (by have := h.1; omega)
    have ha : (⟨b2, off2, none⟩ : Addr).add j = ⟨b2, off2 + j, none⟩ := by unfold Addr.add; split <;> simp_all
    rw [ha, hx]
    simp [List.getD, hj] at hu ⊢
    exact hu
theorem rd_new {W : World} {b off n : Nat} {l : List Int} (hn : 0 < n) (h : Rd W (some ⟨b, off, none⟩) n l) : ∀ j u, (l.map (Value.int .u32))[j]? = some u → W.cell? ((⟨b, off, none⟩ : Addr).add j) = some u := by
  obtain ⟨b2, off2, e, hc⟩ := rd_news hn h
  injection e with e
  injection e with e1 e2 _
  subst e1 e2
  exact hc
theorem rd_zero {W : World} {A : Option Addr} {l : List Int} (h : l.length = 0) : Rd W A 0 l := by
  obtain rfl := List.eq_nil_of_length_eq_zero h
  exact ⟨rfl, .inl rfl, fun j => by simp⟩
theorem emp_le {q k : Nat} (h : (Value.slice (some ⟨q, 0, none⟩) 0 0).ownBlock = some k) : q ≤ k := by
  injection h with h
  exact Nat.le_of_eq h
theorem u32_cell (l : List Int) : ∀ u ∈ l.map (Value.int .u32), u.oneCell' = true := by
  intro u hu
  obtain ⟨x, _, rfl⟩ := List.mem_map.1 hu
  rfl
set_option maxRecDepth 100000 in
set_option maxHeartbeats 4000000 in
theorem good {A A2 : Option Addr} {n c m k : Nat} {code more : List Int} {d : Int} (w : World) (hM : Rd w A n code) (hN : Rd w A2 m more) (hw : W32s code) (hx : W32s more) (hi : irt code d = true) (hn : n ≤ 500) (hm : m ≤ 500) :
    Calls Try.prog 9 #[.agg #[.slice A n c, .int .i64 d], .slice A2 m k] w fun e w' => e = .returned (.bool true) ∧ Below w.heap.size w w' := by
  have hl := hM.1
  have hl2 := hN.1
  have HK := Lib.hid ((Kx.nil none w).more (.cells #[.slice A n c, .int .i64 d] 24 (0, 0)))
  have HR := Lib.hid hM
  have HN := Lib.hid hN
  have i1 : decide ((500 : Int) < (n : Int)) = false := decide_eq_false (by omega)
  have i2 : decide ((500 : Int) < (m : Int)) = false := decide_eq_false (by omega)
  have hi2 : irt (code ++ more) d = true := irt_more hi (by omega)
  have c0 := fun (w : World) => right8_ref (A := A) (c := c) (d := d) code w hl (by omega)
  have c1 := fun (w : World) (h : Rd w A n code) => put8 (c := c) (d := d) w h (by omega)
  have c2 := fun (w : World) (g cap K : Nat) (hK : K = n + m) (h : Rd w (some ⟨g, 0, none⟩) K (code ++ more)) => put8 (c := cap) (d := d) w h (by omega)
  rw [hi] at c0
  rw [show pts code d = ibs code d from by unfold pts; rw [hi]; rfl, show pte code d = 0 from by unfold pte; rw [hi]; rfl] at c1
  rw [show pts (code ++ more) d = ibs (code ++ more) d from by unfold pts; rw [hi2]; rfl, show pte (code ++ more) d = 0 from by unfold pte; rw [hi2]; rfl] at c2
  have hg := goes_on hi hi2 hw hx
  have hs := size_ibs hi hw
  obtain ⟨S, hS⟩ : ∃ S, ibs code d = S := ⟨_, rfl⟩
  obtain ⟨T, hT⟩ : ∃ T, ibs (code ++ more) d = T := ⟨_, rfl⟩
  rw [hS] at c1 hg hs
  rw [hT] at c2 hg
  have HX := Lib.hid (w32_more hw hx)
  obtain ⟨z0, hz, hz0, hz1, hz2⟩ := info_parts infoU32
  have C0 := Lib.hid c0
  have C1 := Lib.hid c1
  have C2 := Lib.hid c2
  have HG := Lib.hid hg
  have HSZ := Lib.hid hs
  clear c0 c1 c2 hM hN hw hx hi hi2 hg hs
  go_enter Try.func9, Try.ntmps9
  go_wp2_with fail
  refine (awake8 _).mono ?_
  rintro e w0 ⟨rfl, hb⟩
  replace HK := Lib.hid (HK.out.after hb)
  clear hb
  obtain ⟨a0, a1, _⟩ := cells2 (HK.out.at 0 rfl)
  go_wp2_with fail
  refine (C0.out _).mono ?_
  rintro e w1 ⟨rfl, hb⟩
  replace HK := Lib.hid (HK.out.after hb)
  clear a0 a1
  clear hb
  obtain ⟨a0, a1, _⟩ := cells2 (HK.out.at 0 rfl)
  go_wp2_with fail
  refine (C1.out _ (HR.out.kx HK.out)).mono ?_
  rintro e w2 ⟨rfl, hb⟩
  replace HK := Lib.hid (HK.out.after hb)
  clear a0 a1
  clear hb
  obtain ⟨a0, a1, _⟩ := cells2 (HK.out.at 0 rfl)
  go_wp2_with fail
  go_cut [7, 8] (fun s7 s8 wx => s7 = .string T ∧ s8 = .int .i64 0 ∧ Hid (Kx none w wx [(w.heap.size, .cells #[.slice A n c, .int .i64 d] 24 (0, 0))]))
  case first =>
    have HK0 := HK
    rcases Nat.eq_zero_or_pos n with hn0 | hn0
    · subst hn0
      have HCN : Hid (code = []) := Lib.hid (List.eq_nil_of_length_eq_zero hl)
      rcases A with _ | ⟨b, off, p⟩
      · rcases Nat.eq_zero_or_pos m with hm0 | hm0
        · subst hm0
          have HMN : Hid (more = []) := Lib.hid (List.eq_nil_of_length_eq_zero hl2)
          rcases A2 with _ | ⟨b2, off2, p2⟩
          · go_region_held3 (fun W => W.cell? ⟨w.heap.size, 0, none⟩ = some (.slice none 0 c) ∧ W.cell? ⟨w.heap.size, 1, none⟩ = some (.int .i64 d))
              (first | exact two8A HK.out | exact two8D HK.out | exact two8 HK.out)
              (first
                | (go_at_call 15; with_reducible refine (C2.out _ _ _ _ ?hK (rd_zero (by simp [HCN.out, HMN.out]))).mono ?_; (case hK => omega); rintro e w' ⟨rfl, hb⟩; replace HK := Lib.hid ((HK.out.after ((Below.refl _ _).alloc (Nat.le_refl _) (.cells #[] 35 (0, 0))).drew).after hb); clear hb)
                | fail)
            all_goals
              go_wp2_with fail
              go_meet
              exact ⟨rfl, rfl, HK⟩
          · go_region_held3 (fun W => W.cell? ⟨w.heap.size, 0, none⟩ = some (.slice none 0 c) ∧ W.cell? ⟨w.heap.size, 1, none⟩ = some (.int .i64 d))
              (first | exact two8A HK.out | exact two8D HK.out | exact two8 HK.out)
              (first
                | (go_at_call 15; with_reducible refine (C2.out _ _ _ _ ?hK (rd_zero (by simp [HCN.out, HMN.out]))).mono ?_; (case hK => omega); rintro e w' ⟨rfl, hb⟩; replace HK := Lib.hid ((HK.out.after ((Below.refl _ _).alloc (Nat.le_refl _) (.cells #[] 35 (0, 0))).drew).after hb); clear hb)
                | fail)
            all_goals
              go_wp2_with fail
              go_meet
              exact ⟨rfl, rfl, HK⟩
        · obtain ⟨b2, off2, rfl, _⟩ := rd_news hm0 HN.out
          go_region_held3 (fun W => W.cell? ⟨w.heap.size, 0, none⟩ = some (.slice none 0 c) ∧ W.cell? ⟨w.heap.size, 1, none⟩ = some (.int .i64 d))
            (first | exact two8A HK.out | exact two8D HK.out | exact two8 HK.out)
            (first
              | (go_at_call 15; with_reducible refine (C2.out _ _ _ _ ?hK HO.out).mono ?_; (case hK => omega); rintro e w' ⟨rfl, hb⟩; replace HK := Lib.hid (HK.out.after hb); clear hb)
              | (refine step_append_lies _ (by rfl) _ _ _ (by rfl) w2.heap.size 35 z0 _ 1 4 Try.underlying22 hz hz0 hz1 hz2 rfl (by omega) _ 0 [] (by rfl) (World.ownsRow_made w2 #[] 0 (Nat.le_refl _) (by simp) rfl)
                  ⟨b2, off2, none⟩ m k (more.map (Value.int .u32)) (by rfl) (by simp [hl2]) (rd_new hm0 ((HN.out.kx HK.out).below ((Below.refl _ _).alloc (Nat.le_refl _) (.cells #[] 35 (0, 0))).drew)) (u32_cell _)
                  hm0 (by unfold maxLen; omega) (by omega) (by simp) _ rfl ?_; intro g2 cap2 w5 hown hgrow hat hlt1
                 have HB := Lib.hid (((Below.refl _ _).alloc (Nat.le_refl _) (.cells #[] 35 (0, 0))).drew.grown hgrow (by simp) (fun k hk => emp_le hk))
                 replace HK := Lib.hid (HK0.out.after HB.out)
                 have ho := rd_own (zs := code ++ more) (by rw [HCN.out, List.nil_append]; exact hown) (by rw [HCN.out, List.nil_append, hl2]; omega) HX.out
                 rw [Nat.zero_add] at ho
                 have HO := Lib.hid ho
                 clear ho
                 clear hown hgrow hat hlt1)
              | fail)
          all_goals
            go_wp2_with fail
            go_meet
            exact ⟨rfl, rfl, HK⟩
      · rcases Nat.eq_zero_or_pos m with hm0 | hm0
        · subst hm0
          have HMN : Hid (more = []) := Lib.hid (List.eq_nil_of_length_eq_zero hl2)
          rcases A2 with _ | ⟨b2, off2, p2⟩
          · go_region_held3 (fun W => W.cell? ⟨w.heap.size, 0, none⟩ = some (.slice (some ⟨b, off, p⟩) 0 c) ∧ W.cell? ⟨w.heap.size, 1, none⟩ = some (.int .i64 d))
              (first | exact two8A HK.out | exact two8D HK.out | exact two8 HK.out)
              (first
                | (go_at_call 15; with_reducible refine (C2.out _ _ _ _ ?hK (rd_zero (by simp [HCN.out, HMN.out]))).mono ?_; (case hK => omega); rintro e w' ⟨rfl, hb⟩; replace HK := Lib.hid ((HK.out.after ((Below.refl _ _).alloc (Nat.le_refl _) (.cells #[] 35 (0, 0))).drew).after hb); clear hb)
                | fail)
            all_goals
              go_wp2_with fail
              go_meet
              exact ⟨rfl, rfl, HK⟩
          · go_region_held3 (fun W => W.cell? ⟨w.heap.size, 0, none⟩ = some (.slice (some ⟨b, off, p⟩) 0 c) ∧ W.cell? ⟨w.heap.size, 1, none⟩ = some (.int .i64 d))
              (first | exact two8A HK.out | exact two8D HK.out | exact two8 HK.out)
              (first
                | (go_at_call 15; with_reducible refine (C2.out _ _ _ _ ?hK (rd_zero (by simp [HCN.out, HMN.out]))).mono ?_; (case hK => omega); rintro e w' ⟨rfl, hb⟩; replace HK := Lib.hid ((HK.out.after ((Below.refl _ _).alloc (Nat.le_refl _) (.cells #[] 35 (0, 0))).drew).after hb); clear hb)
                | fail)
            all_goals
              go_wp2_with fail
              go_meet
              exact ⟨rfl, rfl, HK⟩
        · obtain ⟨b2, off2, rfl, _⟩ := rd_news hm0 HN.out
          go_region_held3 (fun W => W.cell? ⟨w.heap.size, 0, none⟩ = some (.slice (some ⟨b, off, p⟩) 0 c) ∧ W.cell? ⟨w.heap.size, 1, none⟩ = some (.int .i64 d))
            (first | exact two8A HK.out | exact two8D HK.out | exact two8 HK.out)
            (first
              | (go_at_call 15; with_reducible refine (C2.out _ _ _ _ ?hK HO.out).mono ?_; (case hK => omega); rintro e w' ⟨rfl, hb⟩; replace HK := Lib.hid (HK.out.after hb); clear hb)
              | (refine step_append_lies _ (by rfl) _ _ _ (by rfl) w2.heap.size 35 z0 _ 1 4 Try.underlying22 hz hz0 hz1 hz2 rfl (by omega) _ 0 [] (by rfl) (World.ownsRow_made w2 #[] 0 (Nat.le_refl _) (by simp) rfl)
                  ⟨b2, off2, none⟩ m k (more.map (Value.int .u32)) (by rfl) (by simp [hl2]) (rd_new hm0 ((HN.out.kx HK.out).below ((Below.refl _ _).alloc (Nat.le_refl _) (.cells #[] 35 (0, 0))).drew)) (u32_cell _)
                  hm0 (by unfold maxLen; omega) (by omega) (by simp) _ rfl ?_; intro g2 cap2 w5 hown hgrow hat hlt1
                 have HB := Lib.hid (((Below.refl _ _).alloc (Nat.le_refl _) (.cells #[] 35 (0, 0))).drew.grown hgrow (by simp) (fun k hk => emp_le hk))
                 replace HK := Lib.hid (HK0.out.after HB.out)
                 have ho := rd_own (zs := code ++ more) (by rw [HCN.out, List.nil_append]; exact hown) (by rw [HCN.out, List.nil_append, hl2]; omega) HX.out
                 rw [Nat.zero_add] at ho
                 have HO := Lib.hid ho
                 clear ho
                 clear hown hgrow hat hlt1)
              | fail)
          all_goals
            go_wp2_with fail
            go_meet
            exact ⟨rfl, rfl, HK⟩
    · obtain ⟨b, off, rfl, _⟩ := rd_news hn0 HR.out
      rcases Nat.eq_zero_or_pos m with hm0 | hm0
      · subst hm0
        have HMN : Hid (more = []) := Lib.hid (List.eq_nil_of_length_eq_zero hl2)
        rcases A2 with _ | ⟨b2, off2, p2⟩
        · go_region_held3 (fun W => W.cell? ⟨w.heap.size, 0, none⟩ = some (.slice (some ⟨b, off, none⟩) n c) ∧ W.cell? ⟨w.heap.size, 1, none⟩ = some (.int .i64 d))
            (first | exact two8A HK.out | exact two8D HK.out | exact two8 HK.out)
            (first
              | (go_at_call 15; with_reducible refine (C2.out _ _ _ _ ?hK HO.out).mono ?_; (case hK => omega); rintro e w' ⟨rfl, hb⟩; replace HK := Lib.hid (HK.out.after hb); clear hb)
              | (refine step_append_lies _ (by rfl) _ _ _ (by rfl) w2.heap.size 35 z0 _ 1 4 Try.underlying22 hz hz0 hz1 hz2 rfl (by omega) _ 0 [] (by rfl) (World.ownsRow_made w2 #[] 0 (Nat.le_refl _) (by simp) rfl)
                  ⟨b, off, none⟩ n c (code.map (Value.int .u32)) (by rfl) (by simp [hl]) (rd_new hn0 ((HR.out.kx HK.out).below ((Below.refl _ _).alloc (Nat.le_refl _) (.cells #[] 35 (0, 0))).drew)) (u32_cell _)
                  hn0 (by unfold maxLen; omega) (by omega) (by simp) _ rfl ?_; intro g1 cap1 w4 hown hgrow hat hlt1
                 have HB := Lib.hid (((Below.refl _ _).alloc (Nat.le_refl _) (.cells #[] 35 (0, 0))).drew.grown hgrow (by simp) (fun k hk => emp_le hk))
                 replace HK := Lib.hid (HK0.out.after HB.out)
                 have HO1 : Hid (w4.ownsRow w2.heap.size 35 1 (.slice (some ⟨g1, 0, none⟩) (0 + n) cap1) (0 + n) (code.map (Value.int .u32))) := Lib.hid hown
                 have hcp : n ≤ cap1 := own_cap hown
                 have ho := rd_own (zs := code ++ more) (by rw [HMN.out, List.append_nil]; exact hown) (by rw [HMN.out, List.append_nil, hl]; omega) HX.out
                 rw [Nat.zero_add] at ho
                 have HO := Lib.hid ho
                 clear ho
                 clear hown hgrow hat hlt1)
              | fail)
          all_goals
            go_wp2_with fail
            go_meet
            exact ⟨rfl, rfl, HK⟩
        · go_region_held3 (fun W => W.cell? ⟨w.heap.size, 0, none⟩ = some (.slice (some ⟨b, off, none⟩) n c) ∧ W.cell? ⟨w.heap.size, 1, none⟩ = some (.int .i64 d))
            (first | exact two8A HK.out | exact two8D HK.out | exact two8 HK.out)
            (first
              | (go_at_call 15; with_reducible refine (C2.out _ _ _ _ ?hK HO.out).mono ?_; (case hK => omega); rintro e w' ⟨rfl, hb⟩; replace HK := Lib.hid (HK.out.after hb); clear hb)
              | (refine step_append_lies _ (by rfl) _ _ _ (by rfl) w2.heap.size 35 z0 _ 1 4 Try.underlying22 hz hz0 hz1 hz2 rfl (by omega) _ 0 [] (by rfl) (World.ownsRow_made w2 #[] 0 (Nat.le_refl _) (by simp) rfl)
                  ⟨b, off, none⟩ n c (code.map (Value.int .u32)) (by rfl) (by simp [hl]) (rd_new hn0 ((HR.out.kx HK.out).below ((Below.refl _ _).alloc (Nat.le_refl _) (.cells #[] 35 (0, 0))).drew)) (u32_cell _)
                  hn0 (by unfold maxLen; omega) (by omega) (by simp) _ rfl ?_; intro g1 cap1 w4 hown hgrow hat hlt1
                 have HB := Lib.hid (((Below.refl _ _).alloc (Nat.le_refl _) (.cells #[] 35 (0, 0))).drew.grown hgrow (by simp) (fun k hk => emp_le hk))
                 replace HK := Lib.hid (HK0.out.after HB.out)
                 have HO1 : Hid (w4.ownsRow w2.heap.size 35 1 (.slice (some ⟨g1, 0, none⟩) (0 + n) cap1) (0 + n) (code.map (Value.int .u32))) := Lib.hid hown
                 have hcp : n ≤ cap1 := own_cap hown
                 have ho := rd_own (zs := code ++ more) (by rw [HMN.out, List.append_nil]; exact hown) (by rw [HMN.out, List.append_nil, hl]; omega) HX.out
                 rw [Nat.zero_add] at ho
                 have HO := Lib.hid ho
                 clear ho
                 clear hown hgrow hat hlt1)
              | fail)
          all_goals
            go_wp2_with fail
            go_meet
            exact ⟨rfl, rfl, HK⟩
      · obtain ⟨b2, off2, rfl, _⟩ := rd_news hm0 HN.out
        go_region_held3 (fun W => W.cell? ⟨w.heap.size, 0, none⟩ = some (.slice (some ⟨b, off, none⟩) n c) ∧ W.cell? ⟨w.heap.size, 1, none⟩ = some (.int .i64 d))
          (first | exact two8A HK.out | exact two8D HK.out | exact two8 HK.out)
          (first
            | (go_at_call 15; with_reducible refine (C2.out _ _ _ _ ?hK HO.out).mono ?_; (case hK => omega); rintro e w' ⟨rfl, hb⟩; replace HK := Lib.hid (HK.out.after hb); clear hb)
            | (refine step_append_lies _ (by rfl) _ _ _ (by rfl) w2.heap.size 35 z0 _ 1 4 Try.underlying22 hz hz0 hz1 hz2 rfl (by omega) _ 0 [] (by rfl) (World.ownsRow_made w2 #[] 0 (Nat.le_refl _) (by simp) rfl)
                ⟨b, off, none⟩ n c (code.map (Value.int .u32)) (by rfl) (by simp [hl]) (rd_new hn0 ((HR.out.kx HK.out).below ((Below.refl _ _).alloc (Nat.le_refl _) (.cells #[] 35 (0, 0))).drew)) (u32_cell _)
                hn0 (by unfold maxLen; omega) (by omega) (by simp) _ rfl ?_; intro g1 cap1 w4 hown hgrow hat hlt1
               have HB := Lib.hid (((Below.refl _ _).alloc (Nat.le_refl _) (.cells #[] 35 (0, 0))).drew.grown hgrow (by simp) (fun k hk => emp_le hk))
               replace HK := Lib.hid (HK0.out.after HB.out)
               have HO1 : Hid (w4.ownsRow w2.heap.size 35 1 (.slice (some ⟨g1, 0, none⟩) (0 + n) cap1) (0 + n) (code.map (Value.int .u32))) := Lib.hid hown
               clear hown hgrow hat hlt1)
            | (refine step_append_lies _ (by rfl) _ _ _ (by rfl) w2.heap.size 35 z0 _ 1 4 Try.underlying22 hz hz0 hz1 hz2 rfl (by omega) _ (0 + n) (code.map (Value.int .u32)) (by rfl) HO1.out
                ⟨b2, off2, none⟩ m k (more.map (Value.int .u32)) (by rfl) (by simp [hl2]) (rd_new hm0 (HN.out.kx HK.out)) (u32_cell _)
                hm0 (by unfold maxLen; omega) (by omega) HB.out.size _ rfl ?_; intro g2 cap2 w5 hown hgrow hat hlt1
               have HB2 := Lib.hid (HB.out.grown hgrow HB.out.size (fun k hk => (HO1.out.lt k hk).1))
               replace HK := Lib.hid (HK0.out.after HB2.out)
               have ho := rd_own (zs := code ++ more) (by rw [List.map_append]; exact hown) (by rw [List.length_append, hl, hl2]; omega) HX.out
               rw [Nat.zero_add] at ho
               have HO := Lib.hid ho
               clear ho
               clear hown hgrow hat hlt1)
            | fail)
        all_goals
          go_wp2_with fail
          go_meet
          exact ⟨rfl, rfl, HK⟩
  case rest =>
    obtain ⟨rfl, rfl, HK2⟩ := hcut
    obtain ⟨t1, t2, t3⟩ := HG.out
    have u0 := HSZ.out
    rw [hl2] at t1
    rw [hl] at u0
    clear HK HR HN HX C0 C1 C2 hz hz0 hz1 hz2
    have x1 : (12 : Int) ≤ (S.size : Int) := by omega
    have x2 : ((T.size : Int) == IntKind.i64.wrap ((S.size : Int) + IntKind.i64.wrap (4 * (m : Int)))) = true := by rw [beq_iff_eq, IntKind.wrap_i64, IntKind.wrap_i64]; omega
    have x3 : ((T.extract 0 4).toList == (S.extract 0 4).toList) = true := by rw [t2]; simp
    have x4 : ((T.extract 8 S.size).toList == (S.extract 8 S.size).toList) = true := by rw [t3]; simp
    have y1 : 4 ≤ T.size := by omega
    have y2 : 4 ≤ S.size := by omega
    have y3 : 8 ≤ S.size := by omega
    have y4 : S.size ≤ T.size := by omega
    have y5 : (4 : Int) ≤ (T.size : Int) := by omega
    have y6 : (4 : Int) ≤ (S.size : Int) := by omega
    have y7 : (8 : Int) ≤ (S.size : Int) := by omega
    have y8 : (S.size : Int) ≤ (T.size : Int) := by omega
    clear t1 t2 t3 u0 HG HSZ
    go_upto_region 7 with fail
    refine wp_region_still_lit (by kernel_rfl) (by kernel_rfl) ?_
    repeat (first
      | still_step
      | (refine wpStill_step (fun K hK => ?_)
         rw [if_pos (by kernel_rfl)]
         go_simp
         refine hK _ ?_
         clear hK K))
    refine wpStill_nil ?_
    go_wp2_with fail
    go_ret
    exact ⟨rfl, HK2.out.drew.be.plain⟩
set_option maxRecDepth 100000 in
set_option maxHeartbeats 4000000 in
theorem walk {A A2 : Option Addr} {n c m k : Nat} {code more : List Int} {d : Int} (w : World) (hM : n ≤ c ∧ c ≤ maxLen ∧ Rd w A n code ∧ W32s code) (hN : m ≤ k ∧ k ≤ maxLen ∧ Rd w A2 m more ∧ W32s more) :
    Calls Try.prog 9 #[.agg #[.slice A n c, .int .i64 d], .slice A2 m k] w fun e w' => e = .returned (.bool true) ∧ Below w.heap.size w w' := by
  obtain ⟨_, _, hr, hw⟩ := hM
  obtain ⟨_, _, hs, hx⟩ := hN
  have hl := hr.1
  have HK := Lib.hid ((Kx.nil none w).more (.cells #[.slice A n c, .int .i64 d] 24 (0, 0)))
  by_cases hn : n ≤ 500
  · have i1 : decide ((500 : Int) < (n : Int)) = false := decide_eq_false (by omega)
    by_cases hm : m ≤ 500
    · cases hi : irt code d with
      | true => exact good w hr hs hw hx hi hn hm
      | false =>
        have i2 : decide ((500 : Int) < (m : Int)) = false := decide_eq_false (by omega)
        have c0 := fun (w : World) => right8_ref (A := A) (c := c) (d := d) code w hl (by omega)
        rw [hi] at c0
        have C0 := Lib.hid c0
        clear c0 hr hs hw hx hi
        go_enter Try.func9, Try.ntmps9
        go_wp2_with fail
        refine (awake8 _).mono ?_
        rintro e w0 ⟨rfl, hb⟩
        replace HK := Lib.hid (HK.out.after hb)
        clear hb
        obtain ⟨a0, a1, _⟩ := cells2 (HK.out.at 0 rfl)
        go_wp2_with fail
        refine (C0.out _).mono ?_
        rintro e w1 ⟨rfl, hb⟩
        replace HK := Lib.hid (HK.out.after hb)
        clear a0 a1
        clear hb
        go_wp2_with fail
        go_ret
        exact ⟨rfl, HK.out.be.plain⟩
    · have i2 : decide ((500 : Int) < (m : Int)) = true := decide_eq_true (by omega)
      clear hr hs hw hx
      go_enter Try.func9, Try.ntmps9
      go_wp2_with fail
      refine (awake8 _).mono ?_
      rintro e w0 ⟨rfl, hb⟩
      replace HK := Lib.hid (HK.out.after hb)
      clear hb
      obtain ⟨a0, a1, _⟩ := cells2 (HK.out.at 0 rfl)
      go_wp2_with fail
      go_ret
      exact ⟨rfl, HK.out.be.plain⟩
  · have i1 : decide ((500 : Int) < (n : Int)) = true := decide_eq_true (by omega)
    clear hr hs hw hx
    go_enter Try.func9, Try.ntmps9
    go_wp2_with fail
    refine (awake8 _).mono ?_
    rintro e w0 ⟨rfl, hb⟩
    replace HK := Lib.hid (HK.out.after hb)
    clear hb
    obtain ⟨a0, a1, _⟩ := cells2 (HK.out.at 0 rfl)
    go_wp2_with fail
    go_ret
    exact ⟨rfl, HK.out.be.plain⟩

set_option maxRecDepth 100000 in
theorem lifted (os : Os) (started : os.Started) (H : Type) (enc : TypeId × Value → H) :
    ReturnsInHanded {} Try.checked os 9 .any (Rows.imageGoesOnSpec.pre6 enc Try.prog Try.f9 Rows.imageGoesOnRow.domain false) (Rows.imageGoesOnSpec.post enc Try.prog Try.f9 false true false false) := by
  refine returnsInHanded_of_change (C := Try.checked) own started (by kernel_rfl) Try.func9
    (ChangeSpec.witness6 (enc := enc) (C := Try.checked) false ⟨#[], #[.agg #[.slice none 0 0, .int .i64 0], .slice none 0 0], []⟩ 8 (by kernel_rfl) (by kernel_rfl) (by kernel_rfl) (by kernel_rfl)) ?_
  intro W base args ds gs before hval0 hW hcnd _
  have hval : ∀ (j : Nat) t v, Try.f9.params[j]? = some t → args[j]? = some v → Value.okWide Try.prog W .any base t v := hval0
  have hW' := hW
  obtain ⟨p, q, hA0, hV, rfl, hfz, hnd⟩ := hW
  have hA : DataW.TrodAll enc Try.prog W 0 (fun _ => true) true Try.f9.params.toList args.toList ds p := hA0
  rw [Try.params9] at hA hval
  obtain ⟨v0, vs0, d0, ds0, p0, q0, hargs, rfl, rfl, h0, r0⟩ := trodAll_cons hA
  obtain ⟨v1, vs1, d1, ds1, p1, q1, rfl, rfl, rfl, h1, r1⟩ := trodAll_cons r0
  obtain ⟨rfl, rfl, rfl⟩ := trodAll_nil r1
  obtain rfl : args = #[v0, v1] := by cases args; simp_all
  obtain ⟨rfl, rfl⟩ := trodVars_none hV
  have lt0 : ∀ x ∈ p0, x.block < W.heap.size := by obtain ⟨m, hm⟩ := h0; exact DataW.trod_lt m _ _ _ hm
  obtain ⟨A0, n0, c0, l0, a0, rfl, hM0, w0⟩ := open_img (hval 0 24 v0 rfl rfl) h0
  have lt1 : ∀ x ∈ p1, x.block < W.heap.size := by obtain ⟨m, hm⟩ := h1; exact DataW.trod_lt m _ _ _ hm
  obtain ⟨A1, n1, c1, l1, rfl, hM1⟩ := open_wl (hval 1 22 v1 rfl rfl) h1
  clear hA0 hval0
  refine (walk  W hM0 hM1).mono fun e W' ⟨he, bel⟩ => ?_
  subst he
  exact ⟨_, rfl, _, _, _, [], _, [], hW', trodAll_mk1 (shut_bool Try.underlying4 _), (trodAll_cons_mk (Below.trod laidOut (by kernel_rfl) (of_decide_eq_true (by kernel_rfl)) h0 bel lt0) (trodAll_cons_mk (Below.trod laidOut (by kernel_rfl) (of_decide_eq_true (by kernel_rfl)) h1 bel lt1) trodAll_mk0)), rfl, bel.frame _, fun h => by cases h⟩

theorem over : Rows.imageGoesOnRow.holds Try.pinned (OpenSpec.ofChange Rows.imageGoesOnSpec) :=
  OpenClaim.holds_of_wide 9 Try.f9 rfl rfl rfl rfl rfl rfl rfl ⟨rfl, rfl, rfl, rfl, rfl⟩ rfl rfl rfl rfl rfl (by kernel_rfl) Try.func9 (by kernel_rfl)
    (of_decide_eq_true (by kernel_rfl)) (by unfold Func.isWrapper; first | (rw [if_pos (by decide +kernel)]; kernel_rfl) | (rw [if_neg (by decide +kernel)]; exact ⟨rfl, rfl⟩))
    (fun os started H enc _ => lifted os started H enc)

/-- The statement. -/
theorem proved : Rows.ImageGoesOnSaid := over

end Go.Proofs.Ytmifiadkhmglmaa.imageGoesOn
