/- The reference's Fooled: the contract. -/
import Derived.Test.YtcjclbhkheogpaaDoorMerT
import Derived.Deep.DeepCutAuto
import Derived.Deep.RegionLaw
import Derived.Deep.RegionHeld3
set_option linter.unusedVariables false
namespace Go.Proofs.YtcjclbhkheogpaaDoor
open Go.RowKit

def FoolAt (n : Nat) : Prop := ∀ (l : Dl) (i : Nat) (b off c cap capp : Nat) (B : Option Addr) (leaf : Ws) (p : Dl) (w : World), l.length = n → i < n → n ≤ 1024 → n ≤ cap → cap ≤ 9223372036854775807 → p.length = c → c ≤ 1024 → c ≤ capp → capp ≤ 9223372036854775807 → Ok4 leaf → DRow w b off l → Dd w B p → Tabs w →
    Calls Tryd.prog 13 #[.slice (some ⟨b, off, none⟩) n cap, .int .i64 (i : Int), ag leaf, .slice B c capp] w fun e w' => e = .returned (.bool (mfool l i leaf p)) ∧ Below w.heap.size w w'
theorem op_at {l : List Oper} {n : Nat} {o : Oper} (h : l[n]? = some o) : (List.toArray l)[n]? = some o := by
  rw [List.getElem?_toArray]; exact h
theorem allF {w W : World} {n0 n2 n4 : Nat} {b1 b3 : Nat × Obj} {r : List (Nat × Obj)} {t u v : TypeId} {f0 f1 f2 f3 x0 x1 x2 x3 y0 y1 y2 y3 p0 p1 p2 p3 q0 q1 q2 q3 : Int} (h : Kx none w W ((n0, .cells #[.int .u32 f0, .int .u32 f1, .int .u32 f2, .int .u32 f3] t (0, 0)) :: b1 :: (n2, .cells #[.int .u32 x0, .int .u32 x1, .int .u32 x2, .int .u32 x3, .int .u32 y0, .int .u32 y1, .int .u32 y2, .int .u32 y3] u (0, 0)) :: b3 :: (n4, .cells #[.int .u32 p0, .int .u32 p1, .int .u32 p2, .int .u32 p3, .int .u32 q0, .int .u32 q1, .int .u32 q2, .int .u32 q3] v (0, 0)) :: r)) : W.cell? ⟨n0, 0, none⟩ = some (.int .u32 f0) ∧ W.cell? ⟨n0, 1, none⟩ = some (.int .u32 f1) ∧ W.cell? ⟨n0, 2, none⟩ = some (.int .u32 f2) ∧ W.cell? ⟨n0, 3, none⟩ = some (.int .u32 f3) ∧ W.cell? ⟨n2, 0, none⟩ = some (.int .u32 x0) ∧ W.cell? ⟨n2, 1, none⟩ = some (.int .u32 x1) ∧ W.cell? ⟨n2, 2, none⟩ = some (.int .u32 x2) ∧ W.cell? ⟨n2, 3, none⟩ = some (.int .u32 x3) ∧ W.cell? ⟨n2, 4, none⟩ = some (.int .u32 y0) ∧ W.cell? ⟨n2, 5, none⟩ = some (.int .u32 y1) ∧ W.cell? ⟨n2, 6, none⟩ = some (.int .u32 y2) ∧ W.cell? ⟨n2, 7, none⟩ = some (.int .u32 y3) ∧ W.cell? ⟨n4, 0, none⟩ = some (.int .u32 p0) ∧ W.cell? ⟨n4, 1, none⟩ = some (.int .u32 p1) ∧ W.cell? ⟨n4, 2, none⟩ = some (.int .u32 p2) ∧ W.cell? ⟨n4, 3, none⟩ = some (.int .u32 p3) ∧ W.cell? ⟨n4, 4, none⟩ = some (.int .u32 q0) ∧ W.cell? ⟨n4, 5, none⟩ = some (.int .u32 q1) ∧ W.cell? ⟨n4, 6, none⟩ = some (.int .u32 q2) ∧ W.cell? ⟨n4, 7, none⟩ = some (.int .u32 q3) := by
  obtain ⟨a0, a1, a2, a3, _⟩ := cells4 (h.at 0 rfl)
  obtain ⟨c0, c1, c2, c3, c4, c5, c6, c7, _⟩ := cells8 (h.at 2 rfl)
  obtain ⟨d0, d1, d2, d3, d4, d5, d6, d7, _⟩ := cells8 (h.at 4 rfl)
  exact ⟨a0, a1, a2, a3, c0, c1, c2, c3, c4, c5, c6, c7, d0, d1, d2, d3, d4, d5, d6, d7⟩
set_option maxRecDepth 100000 in
set_option maxHeartbeats 16000000 in
theorem fooled_ref : ∀ n, FoolAt n := by
  intro n
  induction n using Nat.strongRecOn with
  | ind n ih0 =>
    have ih : ∀ m, m < n → ∀ i (l : Dl) (b off c cap capp : Nat) (B : Option Addr) (leaf : Ws) (p : Dl) (w : World), _ := fun m hm i l b off c cap capp B leaf p w => ih0 m hm l i b off c cap capp B leaf p w
    clear ih0
    intro l i b off c cap capp B leaf p w hl hi hn hc hm hp hcp hcc hmp ho hr hdp ht
    obtain ⟨f0, f1, f2, f3, hf, _⟩ := ok4 ho
    subst hf
    by_cases h1 : n ≤ 1
    · rw [mfool, dif_pos (by omega)]
      have i0 : (n : Int) < 2 := by omega
      clear ih hdp ht hr ho hl hp
      rw [ag4]
      go_enter Tryd.func13, Tryd.ntmps13
      go_wp2_with fail
      go_ret
      exact ⟨rfl, (Below.refl _ _).alloc (Nat.le_refl _) _⟩
    · have h2 : 2 ≤ n := by omega
      have i0 : ¬ (n : Int) < 2 := by omega
      by_cases hp0 : p = []
      · subst hp0
        obtain rfl : c = 0 := by simpa using hp.symm
        rw [mfool, dif_neg (by omega), if_pos rfl]
        clear ih hdp ht hr ho hl hp
        rw [ag4]
        go_enter Tryd.func13, Tryd.ntmps13
        go_wp2_with fail
        go_ret
        exact ⟨rfl, (Below.refl _ _).alloc (Nat.le_refl _) _⟩
      · have hc1 : 1 ≤ c := by
          rw [← hp]
          exact List.length_pos_iff.2 hp0
        have hol := hr.ok
        have hop := hdp.1
        have hlo := hop.last hp0
        have hlo' := hlo
        obtain ⟨v0, v1, v2, v3, hlast, _⟩ := ok4 hlo'
        clear hlo'
        rw [hlast] at hlo
        obtain ⟨b2, off2, rfl, hr2⟩ := hdp.2 hp0
        have hj : p[c - 1]? = some [v0, v1, v2, v3] := by
          rw [List.getLastD_eq_getLast?, List.getLast?_eq_getElem?, hp] at hlast
          rw [List.getElem?_eq_getElem (by omega)] at hlast ⊢
          rw [← hlast]; rfl
        have k1 := hf_lt h2
        have k2 := hf_pos n
        have C := fun w => half_ref n w h2 (by omega)
        have r1 := hr.take (hf n)
        have r2 := hr.drop (hf n)
        have c1 := fun w => root_ref (hf n) (l.take (hf n)) b off cap w (by rw [List.length_take]; omega) k2 (by omega) (by omega) hm
        have c2 := fun w => root_ref (n - hf n) (l.drop (hf n)) b (off + hf n * 4) (cap - hf n) w (by rw [List.length_drop, hl]) (by omega) (by omega) (by omega) (by omega)
        have o1 : Ok4 (mroot (l.take (hf n))) := (hol.take _).mroot
        have o2 : Ok4 (mroot (l.drop (hf n))) := (hol.drop _).mroot
        obtain ⟨x0, x1, x2, x3, e1, _⟩ := ok4 o1
        obtain ⟨y0, y1, y2, y3, e2, _⟩ := ok4 o2
        rw [e1] at o1
        rw [e2] at o2
        rw [e1, ag4] at c1
        rw [e2, ag4] at c2
        have ox := pair_ok0 o1 o2
        have cx := fun w => pair_ref [x0, x1, x2, x3] [y0, y1, y2, y3] w o1 o2
        have HD2 := Lib.hid hr2
        have HT := Lib.hid ht
        have HK := Lib.hid (((Kx.nil none w).add _ rfl (.cells #[.int .u32 f0, .int .u32 f1, .int .u32 f2, .int .u32 f3] 26 (0, 0))).add (w.heap.size + 1) (by simp) (.cells #[.int .u32 v0, .int .u32 v1, .int .u32 v2, .int .u32 v3] 26 (0, 0)))
        have HKA := Lib.hid ((Kx.nil none w).add _ rfl (.cells #[.int .u32 f0, .int .u32 f1, .int .u32 f2, .int .u32 f3] 26 (0, 0)))
        obtain ⟨g0, g1, g2, g3⟩ := (hr2.oldn HKA.out).four hj
        have u0 : 0 ≤ (c : Int) - 1 := by omega
        have u1 : (c : Int) - 1 < (c : Int) := by omega
        have u2 : ((c : Int) - 1).toNat = c - 1 := by omega
        have u3 : c - 1 ≤ capp := by omega
        have u4 : ((c : Int) == 0) = false := by rw [beq_eq_false_iff_ne]; omega
        have u5 : (c == 0) = false := by rw [beq_eq_false_iff_ne]; omega
        have q4 := eq4s
        have q47 := eq47
        have oz := 0
        clear hj ht
        by_cases hik : i < hf n
        · skip
          have hz4 := mup_ok (hf n) i [f0, f1, f2, f3] p.dropLast ho hop.dropLast
          have c3 := fun w => up_ref (hf n) i (c - 1) capp (some ⟨b2, off2, none⟩) [f0, f1, f2, f3] p.dropLast w hik (by omega) (by rw [List.length_dropLast, hp]) (by omega) (by omega) hmp ho
          have c6 := fun w => ih (hf n) k1 i (l.take (hf n)) b off (c - 1) cap capp (some ⟨b2, off2, none⟩) [f0, f1, f2, f3] p.dropLast w (by rw [List.length_take]; omega) hik (by omega) (by omega) hm (by rw [List.length_dropLast, hp]) (by omega) (by omega) hmp ho
          rw [mfool, dif_neg (by omega), if_neg hp0, if_pos (by rw [hl]; exact hik)]
          unfold mhv
          rw [hl, e1, e2, hlast]
          obtain ⟨CR, hCR⟩ : ∃ CR, mup (hf n) i [f0, f1, f2, f3] p.dropLast = CR := ⟨_, rfl⟩
          rw [hCR] at hz4 c3 ⊢
          obtain ⟨zz, okb⟩ := CR
          obtain ⟨z0, z1, z2, z3, rfl, _⟩ := ok4 hz4
          simp only
          obtain ⟨rec, hrec⟩ : ∃ rec, mfool (l.take (hf n)) i [f0, f1, f2, f3] p.dropLast = rec := ⟨_, rfl⟩
          rw [hrec] at c6 ⊢
          have oq := pair_ok0 hz4 hlo
          have cq := fun w => pair_ref [z0, z1, z2, z3] [v0, v1, v2, v3] w hz4 hlo
          obtain ⟨u0, u1, u2, u3, hu, _⟩ := ok4 ox
          obtain ⟨t0, t1, t2, t3, ht2, _⟩ := ok4 oq
          rw [hu] at cx ⊢
          rw [ht2] at cq ⊢
          rw [ag4, ag4, ag4] at cx cq
          rw [ag4] at c3 c6
          have hres : ((decide ((([x0, x1, x2, x3], [y0, y1, y2, y3]) : Ws × Ws) ≠ ([z0, z1, z2, z3], [v0, v1, v2, v3])) && decide (([u0, u1, u2, u3] : Ws) = [t0, t1, t2, t3])) || rec) = ((!(sameP [x0, x1, x2, x3] [y0, y1, y2, y3] [z0, z1, z2, z3] [v0, v1, v2, v3]) && same [u0, u1, u2, u3] [t0, t1, t2, t3]) || rec) := by
            congr 2
            unfold sameP same
            rw [Bool.eq_iff_iff]
            simp only [ne_eq, Prod.mk.injEq, decide_eq_true_eq, Bool.not_eq_true', Bool.and_eq_false_iff, decide_eq_false_iff_not]
            exact Decidable.not_and_iff_not_or_not
          rw [hres]
          obtain ⟨bs, hbs⟩ : ∃ bs, sameP [x0, x1, x2, x3] [y0, y1, y2, y3] [z0, z1, z2, z3] [v0, v1, v2, v3] = bs := ⟨_, rfl⟩
          obtain ⟨bt, hbt⟩ : ∃ bt, same [u0, u1, u2, u3] [t0, t1, t2, t3] = bt := ⟨_, rfl⟩
          rw [hbs, hbt]
          have S1 := Lib.hid hbs
          have S2 := Lib.hid hbt
          obtain ⟨k, hk⟩ : ∃ k, hf n = k := ⟨_, rfl⟩
          rw [hk] at C c1 c2 c3 c6 k1 k2 hik r1 r2
          have HC := Lib.hid C
          have C1 := Lib.hid c1
          have C2 := Lib.hid c2
          have C3 := Lib.hid c3
          have C4 := Lib.hid cx
          have C5 := Lib.hid cq
          have C6 := Lib.hid c6
          have HR1 := Lib.hid r1
          have HR2 := Lib.hid r2
          have i5 : k ≤ n := by omega
          have i6 : k ≤ cap := by omega
          have i7 : ¬ cap = k := by omega
          clear hl ih hol hop ho C c1 c2 c3 c6 cx cq ox oq oz hz4 hp hCR hk hlast hp0 hr hr2 r1 r2 e1 e2 hrec hu ht2 hres hbs hbt hdp
          rw [ag4]
          go_enter Tryd.func13, Tryd.ntmps13
          go_wp2_with fail
          refine (HC.out _).mono ?_
          rintro e w2 ⟨rfl, rfl⟩
          go_upto_region 6 with fail
          go_cut [12] (fun s12 wx => ∃ g : Nat, s12 = .pointer (some ⟨g, 0, none⟩) ∧ Hid (Kx none w wx [(w.heap.size, .cells #[.int .u32 f0, .int .u32 f1, .int .u32 f2, .int .u32 f3] 26 (0, 0)), (w.heap.size + 1, .cells #[.int .u32 v0, .int .u32 v1, .int .u32 v2, .int .u32 v3] 26 (0, 0)), (g, .cells #[.int .u32 x0, .int .u32 x1, .int .u32 x2, .int .u32 x3, .int .u32 y0, .int .u32 y1, .int .u32 y2, .int .u32 y3] 27 (0, 0))]))
          case first =>
            have HKN := HK
            have HGE := Lib.hid (show w.heap.size ≤ w.heap.size + 1 + 1 by omega)
            replace HK := Lib.hid HK.out.drew
            go_region_law (first
              | (go_simp; go_at_call 18; (with_reducible refine (C1.out _ (HR1.out.oldn HK.out) (HT.out.oldn HK.out)).mono ?_); rintro e w' ⟨rfl, hb⟩; replace HK := Lib.hid (HK.out.after hb); clear hb)
              | (go_simp; go_at_call 18; (with_reducible refine (C1.out _ (HR1.out.oldn (HKN.out.more _).drew) (HT.out.oldn (HKN.out.more _).drew)).mono ?_); rintro e w' ⟨rfl, hb⟩; have hge := HGE.out; replace HK := Lib.hid ((HKN.out.add (w.heap.size + 1 + 1) (by simp) (.cells #[.int .u32 0, .int .u32 0, .int .u32 0, .int .u32 0, .int .u32 0, .int .u32 0, .int .u32 0, .int .u32 0] 27 (0, 0))).drew.after hb); clear hb)
              | (go_simp; go_at_call 18; (with_reducible refine (C2.out _ (HR2.out.oldn HK.out) (HT.out.oldn HK.out)).mono ?_); rintro e w' ⟨rfl, hb⟩; replace HK := Lib.hid (HK.out.after hb); clear hb; try (obtain ⟨b0, b1, b2, b3, b4, b5, b6, b7, e0, e1, e2, e3, e4, e5, e6, e7⟩ := cells8 (HK.out.at 2 rfl)))
              | (go_simp; go_at_call 18; (with_reducible refine (C2.out _ (HR2.out.oldn (HK.out.more _)) (HT.out.oldn (HK.out.more _))).mono ?_); rintro e w' ⟨rfl, hb⟩; have hge := HK.out.be.size; replace HK := Lib.hid ((HK.out.more (.cells #[.int .u32 0, .int .u32 0, .int .u32 0, .int .u32 0, .int .u32 0, .int .u32 0, .int .u32 0, .int .u32 0] 27 (0, 0))).after hb); clear hb; obtain ⟨b0, b1, b2, b3, b4, b5, b6, b7, e0, e1, e2, e3, e4, e5, e6, e7⟩ := cells8 (HK.out.at 2 rfl)))
            all_goals
              go_wp2_with fail
              go_meet
              first
                | exact ⟨_, rfl, Lib.hid (HK.out.put8 2 rfl (.inr hge) (.int .u32 x0) (.int .u32 x1) (.int .u32 x2) (.int .u32 x3) (.int .u32 y0) (.int .u32 y1) (.int .u32 y2) (.int .u32 y3))⟩
                | exact ⟨_, rfl, Lib.hid (HK.out.more _)⟩
          case rest =>
            obtain ⟨g, rfl, HKC⟩ := hcut
            clear HK HKA C1 C2 HC g0 g1 g2 g3
            obtain ⟨a0, a1, a2, a3, _⟩ := cells4 (HKC.out.at 0 rfl)
            obtain ⟨d0, d1, d2, d3, _⟩ := cells4 (HKC.out.at 1 rfl)
            go_wp2_with fail
            clear a0 a1 a2 a3 d0 d1 d2 d3
            refine (C3.out _ (Dd.row (HD2.out.dropLast.oldn HKC.out))).mono ?_
            rintro e w4 ⟨rfl, hb⟩
            have HK := Lib.hid (((HKC.out.after hb).add _ rfl (.cells #[.int .u32 z0, .int .u32 z1, .int .u32 z2, .int .u32 z3] 26 (0, 0))).add (w4.heap.size + 1) (by simp) (.cells #[.int .u32 z0, .int .u32 z1, .int .u32 z2, .int .u32 z3, .int .u32 v0, .int .u32 v1, .int .u32 v2, .int .u32 v3] 27 (0, 0)))
            have HK3 := Lib.hid ((HKC.out.after hb).add _ rfl (.cells #[.int .u32 z0, .int .u32 z1, .int .u32 z2, .int .u32 z3] 26 (0, 0)))
            clear hb HKC
            obtain ⟨d0, d1, d2, d3, _⟩ := cells4 (HK3.out.at 1 rfl)
            rw [ag4]
            have hk := HK.out.drew
            simp only [List.cons_append, List.nil_append] at hk
            have HKR := Lib.hid hk
            clear hk
            cases bs
            · cases bt
              · have S3 := S1.out
                have S4 := S2.out
                go_wp2_with fail
                clear d0 d1 d2 d3
                refine wp_region_held_drew (S := (fun W => W.cell? ⟨w.heap.size, 0, none⟩ = some (.int .u32 f0) ∧ W.cell? ⟨w.heap.size, 1, none⟩ = some (.int .u32 f1) ∧ W.cell? ⟨w.heap.size, 2, none⟩ = some (.int .u32 f2) ∧ W.cell? ⟨w.heap.size, 3, none⟩ = some (.int .u32 f3) ∧ W.cell? ⟨g, 0, none⟩ = some (.int .u32 x0) ∧ W.cell? ⟨g, 1, none⟩ = some (.int .u32 x1) ∧ W.cell? ⟨g, 2, none⟩ = some (.int .u32 x2) ∧ W.cell? ⟨g, 3, none⟩ = some (.int .u32 x3) ∧ W.cell? ⟨g, 4, none⟩ = some (.int .u32 y0) ∧ W.cell? ⟨g, 5, none⟩ = some (.int .u32 y1) ∧ W.cell? ⟨g, 6, none⟩ = some (.int .u32 y2) ∧ W.cell? ⟨g, 7, none⟩ = some (.int .u32 y3) ∧ W.cell? ⟨w4.heap.size + 1, 0, none⟩ = some (.int .u32 z0) ∧ W.cell? ⟨w4.heap.size + 1, 1, none⟩ = some (.int .u32 z1) ∧ W.cell? ⟨w4.heap.size + 1, 2, none⟩ = some (.int .u32 z2) ∧ W.cell? ⟨w4.heap.size + 1, 3, none⟩ = some (.int .u32 z3) ∧ W.cell? ⟨w4.heap.size + 1, 4, none⟩ = some (.int .u32 v0) ∧ W.cell? ⟨w4.heap.size + 1, 5, none⟩ = some (.int .u32 v1) ∧ W.cell? ⟨w4.heap.size + 1, 6, none⟩ = some (.int .u32 v2) ∧ W.cell? ⟨w4.heap.size + 1, 7, none⟩ = some (.int .u32 v3))) (by kernel_rfl) ?hsx1 (fun hH => ?restx1)
                case hsx1 => (try dsimp only); with_reducible exact allF HKR.out
                refine wpAnyH_take (i := 0) (v := ?vx2) (by exact op_at rfl) (by kernel_rfl) (by kernel_rfl) (by kernel_rfl) (by exact fun _ _ _ h => h) (Or.inl ⟨by rfl, ?hyx2⟩) hH ?restx2
                case hyx2 => (intro w' hSw; (try dsimp only at hSw); go_simp <;> with_reducible rfl)
                (try simp only [Act.put, List.setIfInBounds_toArray, List.set_cons_zero, List.set_cons_succ])
                refine wpAnyH_take (i := 1) (v := ?vx3) (by exact op_at rfl) (by kernel_rfl) (by kernel_rfl) (by kernel_rfl) (by exact fun _ _ _ h => h) (Or.inl ⟨by rfl, ?hyx3⟩) hH ?restx3
                case hyx3 => (intro w' hSw; (try dsimp only at hSw); go_simp <;> with_reducible rfl)
                (try simp only [Act.put, List.setIfInBounds_toArray, List.set_cons_zero, List.set_cons_succ])
                refine wpAnyH_take (i := 2) (v := ?vx4) (by exact op_at rfl) (by kernel_rfl) (by kernel_rfl) (by kernel_rfl) (by exact fun _ _ _ h => h) (Or.inl ⟨by rfl, ?hyx4⟩) hH ?restx4
                case hyx4 => (intro w' hSw; (try dsimp only at hSw); go_simp <;> with_reducible rfl)
                (try simp only [Act.put, List.setIfInBounds_toArray, List.set_cons_zero, List.set_cons_succ])
                refine wpAnyH_take (i := 3) (v := ?vx5) (by exact op_at rfl) (by kernel_rfl) (by kernel_rfl) (by kernel_rfl) (by exact fun _ _ _ h => h) (Or.inl ⟨by rfl, ?hyx5⟩) hH ?restx5
                case hyx5 => (intro w' hSw; (try dsimp only at hSw); go_simp <;> with_reducible rfl)
                (try simp only [Act.put, List.setIfInBounds_toArray, List.set_cons_zero, List.set_cons_succ])
                refine wpAnyH_take (i := 4) (v := ?vx6) (by exact op_at rfl) (by kernel_rfl) (by kernel_rfl) (by kernel_rfl) (by exact fun _ _ _ h => h) (Or.inl ⟨by rfl, ?hyx6⟩) hH ?restx6
                case hyx6 => (intro w' hSw; (try dsimp only at hSw); go_simp <;> with_reducible rfl)
                (try simp only [Act.put, List.setIfInBounds_toArray, List.set_cons_zero, List.set_cons_succ])
                refine wpAnyH_take (i := 5) (v := ?vx7) (by exact op_at rfl) (by kernel_rfl) (by kernel_rfl) (by kernel_rfl) (by exact fun _ _ _ h => h) (Or.inl ⟨by rfl, ?hyx7⟩) hH ?restx7
                case hyx7 => (intro w' hSw; (try dsimp only at hSw); go_simp <;> with_reducible rfl)
                (try simp only [Act.put, List.setIfInBounds_toArray, List.set_cons_zero, List.set_cons_succ])
                refine wpAnyH_take (i := 6) (v := ?vx8) (by exact op_at rfl) (by kernel_rfl) (by kernel_rfl) (by kernel_rfl) (by exact fun _ _ _ h => h) (Or.inl ⟨by rfl, ?hyx8⟩) hH ?restx8
                case hyx8 => (intro w' hSw; (try dsimp only at hSw); go_simp <;> with_reducible rfl)
                (try simp only [Act.put, List.setIfInBounds_toArray, List.set_cons_zero, List.set_cons_succ])
                refine wpAnyH_take (i := 7) (v := ?vx9) (by exact op_at rfl) (by kernel_rfl) (by kernel_rfl) (by kernel_rfl) (by exact fun _ _ _ h => h) (Or.inl ⟨by rfl, ?hyx9⟩) hH ?restx9
                case hyx9 => (intro w' hSw; (try dsimp only at hSw); go_simp <;> with_reducible rfl)
                (try simp only [Act.put, List.setIfInBounds_toArray, List.set_cons_zero, List.set_cons_succ])
                refine wpAnyH_take (i := 9) (v := ?vx10) (by exact op_at rfl) (by kernel_rfl) (by kernel_rfl) (by kernel_rfl) (by exact fun _ _ _ h => h) (Or.inl ⟨by rfl, ?hyx10⟩) hH ?restx10
                case hyx10 => (intro w' hSw; (try dsimp only at hSw); go_simp <;> with_reducible rfl)
                (try simp only [Act.put, List.setIfInBounds_toArray, List.set_cons_zero, List.set_cons_succ])
                refine wpAnyH_take (i := 10) (v := ?vx11) (by exact op_at rfl) (by kernel_rfl) (by kernel_rfl) (by kernel_rfl) (by exact fun _ _ _ h => h) (Or.inl ⟨by rfl, ?hyx11⟩) hH ?restx11
                case hyx11 => (intro w' hSw; (try dsimp only at hSw); go_simp <;> with_reducible rfl)
                (try simp only [Act.put, List.setIfInBounds_toArray, List.set_cons_zero, List.set_cons_succ])
                refine wpAnyH_take (i := 11) (v := ?vx12) (by exact op_at rfl) (by kernel_rfl) (by kernel_rfl) (by kernel_rfl) (by exact fun _ _ _ h => h) (Or.inl ⟨by rfl, ?hyx12⟩) hH ?restx12
                case hyx12 => (intro w' hSw; (try dsimp only at hSw); go_simp <;> with_reducible rfl)
                (try simp only [Act.put, List.setIfInBounds_toArray, List.set_cons_zero, List.set_cons_succ])
                refine wpAnyH_take (i := 12) (v := ?vx13) (by exact op_at rfl) (by kernel_rfl) (by kernel_rfl) (by kernel_rfl) (by exact fun _ _ _ h => h) (Or.inl ⟨by rfl, ?hyx13⟩) hH ?restx13
                case hyx13 => (intro w' hSw; (try dsimp only at hSw); go_simp <;> with_reducible rfl)
                (try simp only [Act.put, List.setIfInBounds_toArray, List.set_cons_zero, List.set_cons_succ])
                refine wpAnyH_ready (rs := [8]) (by kernel_rfl) (by simp) ?_
                refine AllReadyH.cons (op_at rfl) (fun K hK => ?_) AllReadyH.nil
                go_simp
                go_at_call 10
                (with_reducible refine (C4.out _).mono ?_)
                rintro e w' ⟨rfl, hb⟩
                replace HKR := Lib.hid (HKR.out.after hb)
                clear hb
                go_simp
                refine hK.out _ _ ?hsx14 (fun hN => ?restx14)
                case hsx14 => (try dsimp only); with_reducible exact allF HKR.out
                clear hK K hH
                have hH := hN
                clear hN
                (try simp only [Act.put, List.setIfInBounds_toArray, List.set_cons_zero, List.set_cons_succ])
                refine wpAnyH_ready (rs := [13]) (by kernel_rfl) (by simp) ?_
                refine AllReadyH.cons (op_at rfl) (fun K hK => ?_) AllReadyH.nil
                go_simp
                go_at_call 10
                (with_reducible refine (C5.out _).mono ?_)
                rintro e w' ⟨rfl, hb⟩
                replace HKR := Lib.hid (HKR.out.after hb)
                clear hb
                go_simp
                refine hK.out _ _ ?hsx15 (fun hN => ?restx15)
                case hsx15 => (try dsimp only); with_reducible exact allF HKR.out
                clear hK K hH
                have hH := hN
                clear hN
                (try simp only [Act.put, List.setIfInBounds_toArray, List.set_cons_zero, List.set_cons_succ])
                refine wpAnyH_take (i := 14) (v := ?vx16) (by exact op_at rfl) (by kernel_rfl) (by kernel_rfl) (by kernel_rfl) (by exact fun _ _ _ h => h) (Or.inl ⟨by rfl, ?hyx16⟩) hH ?restx16
                case hyx16 => (intro w' hSw; (try dsimp only at hSw); go_simp <;> with_reducible rfl)
                (try simp only [Act.put, List.setIfInBounds_toArray, List.set_cons_zero, List.set_cons_succ])
                refine wpAnyH_take (i := 15) (v := ?vx17) (by exact op_at rfl) (by kernel_rfl) (by kernel_rfl) (by kernel_rfl) (by exact fun _ _ _ h => h) (Or.inl ⟨by rfl, ?hyx17⟩) hH ?restx17
                case hyx17 => (intro w' hSw; (try dsimp only at hSw); go_simp <;> with_reducible rfl)
                (try simp only [Act.put, List.setIfInBounds_toArray, List.set_cons_zero, List.set_cons_succ])
                refine wpAnyH_take (i := 16) (v := ?vx18) (by exact op_at rfl) (by kernel_rfl) (by kernel_rfl) (by kernel_rfl) (by exact fun _ _ _ h => h) (Or.inl ⟨by rfl, ?hyx18⟩) hH ?restx18
                case hyx18 => (intro w' hSw; (try dsimp only at hSw); go_simp <;> with_reducible rfl)
                (try simp only [Act.put, List.setIfInBounds_toArray, List.set_cons_zero, List.set_cons_succ])
                refine wpAnyH_take (i := 17) (v := ?vx19) (by exact op_at rfl) (by kernel_rfl) (by kernel_rfl) (by kernel_rfl) (by exact fun _ _ _ h => h) (Or.inl ⟨by rfl, ?hyx19⟩) hH ?restx19
                case hyx19 => (intro w' hSw; (try dsimp only at hSw); go_simp <;> with_reducible rfl)
                (try simp only [Act.put, List.setIfInBounds_toArray, List.set_cons_zero, List.set_cons_succ])
                refine wpAnyH_take (i := 18) (v := ?vx20) (by exact op_at rfl) (by kernel_rfl) (by kernel_rfl) (by kernel_rfl) (by exact fun _ _ _ h => h) (Or.inl ⟨by rfl, ?hyx20⟩) hH ?restx20
                case hyx20 => (intro w' hSw; (try dsimp only at hSw); go_simp <;> with_reducible rfl)
                (try simp only [Act.put, List.setIfInBounds_toArray, List.set_cons_zero, List.set_cons_succ])
                refine wpAnyH_take (i := 19) (v := ?vx21) (by exact op_at rfl) (by kernel_rfl) (by kernel_rfl) (by kernel_rfl) (by exact fun _ _ _ h => h) (Or.inl ⟨by rfl, ?hyx21⟩) hH ?restx21
                case hyx21 => (intro w' hSw; (try dsimp only at hSw); go_simp <;> with_reducible rfl)
                (try simp only [Act.put, List.setIfInBounds_toArray, List.set_cons_zero, List.set_cons_succ])
                refine wpAnyH_take (i := 20) (v := ?vx22) (by exact op_at rfl) (by kernel_rfl) (by kernel_rfl) (by kernel_rfl) (by exact fun _ _ _ h => h) (Or.inl ⟨by rfl, ?hyx22⟩) hH ?restx22
                case hyx22 => (intro w' hSw; (try dsimp only at hSw); go_simp <;> with_reducible rfl)
                (try simp only [Act.put, List.setIfInBounds_toArray, List.set_cons_zero, List.set_cons_succ])
                refine wpAnyH_take (i := 21) (v := ?vx23) (by exact op_at rfl) (by kernel_rfl) (by kernel_rfl) (by kernel_rfl) (by exact fun _ _ _ h => h) (Or.inl ⟨by rfl, ?hyx23⟩) hH ?restx23
                case hyx23 => (intro w' hSw; (try dsimp only at hSw); go_simp <;> with_reducible rfl)
                (try simp only [Act.put, List.setIfInBounds_toArray, List.set_cons_zero, List.set_cons_succ])
                refine wpAnyH_take (i := 22) (v := ?vx24) (by exact op_at rfl) (by kernel_rfl) (by kernel_rfl) (by kernel_rfl) (by exact fun _ _ _ h => h) (Or.inl ⟨by rfl, ?hyx24⟩) hH ?restx24
                case hyx24 => (intro w' hSw; (try dsimp only at hSw); go_simp <;> with_reducible rfl)
                (try simp only [Act.put, List.setIfInBounds_toArray, List.set_cons_zero, List.set_cons_succ])
                refine wpAnyH_ready (rs := [23]) (by kernel_rfl) (by simp) ?_
                refine AllReadyH.cons (op_at rfl) (fun K hK => ?_) AllReadyH.nil
                go_simp
                go_at_call 13
                (with_reducible refine (C6.out _ (HR1.out.oldn HKR.out) (Dd.row (HD2.out.dropLast.oldn HKR.out)) (HT.out.oldn HKR.out)).mono ?_)
                rintro e w' ⟨rfl, hb⟩
                replace HKR := Lib.hid (HKR.out.after hb)
                clear hb
                go_simp
                refine hK.out _ _ ?hsx25 (fun hN => ?restx25)
                case hsx25 => (try dsimp only); with_reducible exact allF HKR.out
                clear hK K hH
                have hH := hN
                clear hN
                (try simp only [Act.put, List.setIfInBounds_toArray, List.set_cons_zero, List.set_cons_succ])
                refine wpAnyH_take (i := 24) (v := ?vx26) (by exact op_at rfl) (by kernel_rfl) (by kernel_rfl) (by kernel_rfl) (by exact fun _ _ _ h => h) (Or.inl ⟨by rfl, ?hyx26⟩) hH ?restx26
                case hyx26 => (intro w' hSw; (try dsimp only at hSw); go_simp <;> with_reducible rfl)
                (try simp only [Act.put, List.setIfInBounds_toArray, List.set_cons_zero, List.set_cons_succ])
                refine wpAnyH_take (i := 25) (v := ?vx27) (by exact op_at rfl) (by kernel_rfl) (by kernel_rfl) (by kernel_rfl) (by exact fun _ _ _ h => h) (Or.inl ⟨by rfl, ?hyx27⟩) hH ?restx27
                case hyx27 => (intro w' hSw; (try dsimp only at hSw); go_simp <;> with_reducible rfl)
                (try simp only [Act.put, List.setIfInBounds_toArray, List.set_cons_zero, List.set_cons_succ])
                refine wpAnyH_done (by kernel_rfl) ?_ _
                go_wp2_with fail
                go_ret
                exact ⟨by simp, HKR.out.be.plain⟩
              · have S3 := S1.out
                have S4 := S2.out
                go_wp2_with fail
                clear d0 d1 d2 d3
                refine wp_region_held_drew (S := (fun W => W.cell? ⟨w.heap.size, 0, none⟩ = some (.int .u32 f0) ∧ W.cell? ⟨w.heap.size, 1, none⟩ = some (.int .u32 f1) ∧ W.cell? ⟨w.heap.size, 2, none⟩ = some (.int .u32 f2) ∧ W.cell? ⟨w.heap.size, 3, none⟩ = some (.int .u32 f3) ∧ W.cell? ⟨g, 0, none⟩ = some (.int .u32 x0) ∧ W.cell? ⟨g, 1, none⟩ = some (.int .u32 x1) ∧ W.cell? ⟨g, 2, none⟩ = some (.int .u32 x2) ∧ W.cell? ⟨g, 3, none⟩ = some (.int .u32 x3) ∧ W.cell? ⟨g, 4, none⟩ = some (.int .u32 y0) ∧ W.cell? ⟨g, 5, none⟩ = some (.int .u32 y1) ∧ W.cell? ⟨g, 6, none⟩ = some (.int .u32 y2) ∧ W.cell? ⟨g, 7, none⟩ = some (.int .u32 y3) ∧ W.cell? ⟨w4.heap.size + 1, 0, none⟩ = some (.int .u32 z0) ∧ W.cell? ⟨w4.heap.size + 1, 1, none⟩ = some (.int .u32 z1) ∧ W.cell? ⟨w4.heap.size + 1, 2, none⟩ = some (.int .u32 z2) ∧ W.cell? ⟨w4.heap.size + 1, 3, none⟩ = some (.int .u32 z3) ∧ W.cell? ⟨w4.heap.size + 1, 4, none⟩ = some (.int .u32 v0) ∧ W.cell? ⟨w4.heap.size + 1, 5, none⟩ = some (.int .u32 v1) ∧ W.cell? ⟨w4.heap.size + 1, 6, none⟩ = some (.int .u32 v2) ∧ W.cell? ⟨w4.heap.size + 1, 7, none⟩ = some (.int .u32 v3))) (by kernel_rfl) ?hsx28 (fun hH => ?restx28)
                case hsx28 => (try dsimp only); with_reducible exact allF HKR.out
                refine wpAnyH_take (i := 0) (v := ?vx29) (by exact op_at rfl) (by kernel_rfl) (by kernel_rfl) (by kernel_rfl) (by exact fun _ _ _ h => h) (Or.inl ⟨by rfl, ?hyx29⟩) hH ?restx29
                case hyx29 => (intro w' hSw; (try dsimp only at hSw); go_simp <;> with_reducible rfl)
                (try simp only [Act.put, List.setIfInBounds_toArray, List.set_cons_zero, List.set_cons_succ])
                refine wpAnyH_take (i := 1) (v := ?vx30) (by exact op_at rfl) (by kernel_rfl) (by kernel_rfl) (by kernel_rfl) (by exact fun _ _ _ h => h) (Or.inl ⟨by rfl, ?hyx30⟩) hH ?restx30
                case hyx30 => (intro w' hSw; (try dsimp only at hSw); go_simp <;> with_reducible rfl)
                (try simp only [Act.put, List.setIfInBounds_toArray, List.set_cons_zero, List.set_cons_succ])
                refine wpAnyH_take (i := 2) (v := ?vx31) (by exact op_at rfl) (by kernel_rfl) (by kernel_rfl) (by kernel_rfl) (by exact fun _ _ _ h => h) (Or.inl ⟨by rfl, ?hyx31⟩) hH ?restx31
                case hyx31 => (intro w' hSw; (try dsimp only at hSw); go_simp <;> with_reducible rfl)
                (try simp only [Act.put, List.setIfInBounds_toArray, List.set_cons_zero, List.set_cons_succ])
                refine wpAnyH_take (i := 3) (v := ?vx32) (by exact op_at rfl) (by kernel_rfl) (by kernel_rfl) (by kernel_rfl) (by exact fun _ _ _ h => h) (Or.inl ⟨by rfl, ?hyx32⟩) hH ?restx32
                case hyx32 => (intro w' hSw; (try dsimp only at hSw); go_simp <;> with_reducible rfl)
                (try simp only [Act.put, List.setIfInBounds_toArray, List.set_cons_zero, List.set_cons_succ])
                refine wpAnyH_take (i := 4) (v := ?vx33) (by exact op_at rfl) (by kernel_rfl) (by kernel_rfl) (by kernel_rfl) (by exact fun _ _ _ h => h) (Or.inl ⟨by rfl, ?hyx33⟩) hH ?restx33
                case hyx33 => (intro w' hSw; (try dsimp only at hSw); go_simp <;> with_reducible rfl)
                (try simp only [Act.put, List.setIfInBounds_toArray, List.set_cons_zero, List.set_cons_succ])
                refine wpAnyH_take (i := 5) (v := ?vx34) (by exact op_at rfl) (by kernel_rfl) (by kernel_rfl) (by kernel_rfl) (by exact fun _ _ _ h => h) (Or.inl ⟨by rfl, ?hyx34⟩) hH ?restx34
                case hyx34 => (intro w' hSw; (try dsimp only at hSw); go_simp <;> with_reducible rfl)
                (try simp only [Act.put, List.setIfInBounds_toArray, List.set_cons_zero, List.set_cons_succ])
                refine wpAnyH_take (i := 6) (v := ?vx35) (by exact op_at rfl) (by kernel_rfl) (by kernel_rfl) (by kernel_rfl) (by exact fun _ _ _ h => h) (Or.inl ⟨by rfl, ?hyx35⟩) hH ?restx35
                case hyx35 => (intro w' hSw; (try dsimp only at hSw); go_simp <;> with_reducible rfl)
                (try simp only [Act.put, List.setIfInBounds_toArray, List.set_cons_zero, List.set_cons_succ])
                refine wpAnyH_take (i := 7) (v := ?vx36) (by exact op_at rfl) (by kernel_rfl) (by kernel_rfl) (by kernel_rfl) (by exact fun _ _ _ h => h) (Or.inl ⟨by rfl, ?hyx36⟩) hH ?restx36
                case hyx36 => (intro w' hSw; (try dsimp only at hSw); go_simp <;> with_reducible rfl)
                (try simp only [Act.put, List.setIfInBounds_toArray, List.set_cons_zero, List.set_cons_succ])
                refine wpAnyH_take (i := 9) (v := ?vx37) (by exact op_at rfl) (by kernel_rfl) (by kernel_rfl) (by kernel_rfl) (by exact fun _ _ _ h => h) (Or.inl ⟨by rfl, ?hyx37⟩) hH ?restx37
                case hyx37 => (intro w' hSw; (try dsimp only at hSw); go_simp <;> with_reducible rfl)
                (try simp only [Act.put, List.setIfInBounds_toArray, List.set_cons_zero, List.set_cons_succ])
                refine wpAnyH_take (i := 10) (v := ?vx38) (by exact op_at rfl) (by kernel_rfl) (by kernel_rfl) (by kernel_rfl) (by exact fun _ _ _ h => h) (Or.inl ⟨by rfl, ?hyx38⟩) hH ?restx38
                case hyx38 => (intro w' hSw; (try dsimp only at hSw); go_simp <;> with_reducible rfl)
                (try simp only [Act.put, List.setIfInBounds_toArray, List.set_cons_zero, List.set_cons_succ])
                refine wpAnyH_take (i := 11) (v := ?vx39) (by exact op_at rfl) (by kernel_rfl) (by kernel_rfl) (by kernel_rfl) (by exact fun _ _ _ h => h) (Or.inl ⟨by rfl, ?hyx39⟩) hH ?restx39
                case hyx39 => (intro w' hSw; (try dsimp only at hSw); go_simp <;> with_reducible rfl)
                (try simp only [Act.put, List.setIfInBounds_toArray, List.set_cons_zero, List.set_cons_succ])
                refine wpAnyH_take (i := 12) (v := ?vx40) (by exact op_at rfl) (by kernel_rfl) (by kernel_rfl) (by kernel_rfl) (by exact fun _ _ _ h => h) (Or.inl ⟨by rfl, ?hyx40⟩) hH ?restx40
                case hyx40 => (intro w' hSw; (try dsimp only at hSw); go_simp <;> with_reducible rfl)
                (try simp only [Act.put, List.setIfInBounds_toArray, List.set_cons_zero, List.set_cons_succ])
                refine wpAnyH_ready (rs := [8]) (by kernel_rfl) (by simp) ?_
                refine AllReadyH.cons (op_at rfl) (fun K hK => ?_) AllReadyH.nil
                go_simp
                go_at_call 10
                (with_reducible refine (C4.out _).mono ?_)
                rintro e w' ⟨rfl, hb⟩
                replace HKR := Lib.hid (HKR.out.after hb)
                clear hb
                go_simp
                refine hK.out _ _ ?hsx41 (fun hN => ?restx41)
                case hsx41 => (try dsimp only); with_reducible exact allF HKR.out
                clear hK K hH
                have hH := hN
                clear hN
                (try simp only [Act.put, List.setIfInBounds_toArray, List.set_cons_zero, List.set_cons_succ])
                refine wpAnyH_ready (rs := [13]) (by kernel_rfl) (by simp) ?_
                refine AllReadyH.cons (op_at rfl) (fun K hK => ?_) AllReadyH.nil
                go_simp
                go_at_call 10
                (with_reducible refine (C5.out _).mono ?_)
                rintro e w' ⟨rfl, hb⟩
                replace HKR := Lib.hid (HKR.out.after hb)
                clear hb
                go_simp
                refine hK.out _ _ ?hsx42 (fun hN => ?restx42)
                case hsx42 => (try dsimp only); with_reducible exact allF HKR.out
                clear hK K hH
                have hH := hN
                clear hN
                (try simp only [Act.put, List.setIfInBounds_toArray, List.set_cons_zero, List.set_cons_succ])
                refine wpAnyH_take (i := 14) (v := ?vx43) (by exact op_at rfl) (by kernel_rfl) (by kernel_rfl) (by kernel_rfl) (by exact fun _ _ _ h => h) (Or.inl ⟨by rfl, ?hyx43⟩) hH ?restx43
                case hyx43 => (intro w' hSw; (try dsimp only at hSw); go_simp <;> with_reducible rfl)
                (try simp only [Act.put, List.setIfInBounds_toArray, List.set_cons_zero, List.set_cons_succ])
                refine wpAnyH_take (i := 15) (v := ?vx44) (by exact op_at rfl) (by kernel_rfl) (by kernel_rfl) (by kernel_rfl) (by exact fun _ _ _ h => h) (Or.inl ⟨by rfl, ?hyx44⟩) hH ?restx44
                case hyx44 => (intro w' hSw; (try dsimp only at hSw); go_simp <;> with_reducible rfl)
                (try simp only [Act.put, List.setIfInBounds_toArray, List.set_cons_zero, List.set_cons_succ])
                refine wpAnyH_take (i := 16) (v := ?vx45) (by exact op_at rfl) (by kernel_rfl) (by kernel_rfl) (by kernel_rfl) (by exact fun _ _ _ h => h) (Or.inl ⟨by rfl, ?hyx45⟩) hH ?restx45
                case hyx45 => (intro w' hSw; (try dsimp only at hSw); go_simp <;> with_reducible rfl)
                (try simp only [Act.put, List.setIfInBounds_toArray, List.set_cons_zero, List.set_cons_succ])
                refine wpAnyH_take (i := 17) (v := undef) (by exact op_at rfl) (by kernel_rfl) (by kernel_rfl) (by kernel_rfl) (by exact fun _ _ _ h => h) (Or.inr ⟨by rfl, rfl⟩) hH ?restx46
                (try simp only [Act.put, List.setIfInBounds_toArray, List.set_cons_zero, List.set_cons_succ])
                refine wpAnyH_take (i := 18) (v := undef) (by exact op_at rfl) (by kernel_rfl) (by kernel_rfl) (by kernel_rfl) (by exact fun _ _ _ h => h) (Or.inr ⟨by rfl, rfl⟩) hH ?restx47
                (try simp only [Act.put, List.setIfInBounds_toArray, List.set_cons_zero, List.set_cons_succ])
                refine wpAnyH_take (i := 19) (v := undef) (by exact op_at rfl) (by kernel_rfl) (by kernel_rfl) (by kernel_rfl) (by exact fun _ _ _ h => h) (Or.inr ⟨by rfl, rfl⟩) hH ?restx48
                (try simp only [Act.put, List.setIfInBounds_toArray, List.set_cons_zero, List.set_cons_succ])
                refine wpAnyH_take (i := 20) (v := undef) (by exact op_at rfl) (by kernel_rfl) (by kernel_rfl) (by kernel_rfl) (by exact fun _ _ _ h => h) (Or.inr ⟨by rfl, rfl⟩) hH ?restx49
                (try simp only [Act.put, List.setIfInBounds_toArray, List.set_cons_zero, List.set_cons_succ])
                refine wpAnyH_take (i := 21) (v := undef) (by exact op_at rfl) (by kernel_rfl) (by kernel_rfl) (by kernel_rfl) (by exact fun _ _ _ h => h) (Or.inr ⟨by rfl, rfl⟩) hH ?restx50
                (try simp only [Act.put, List.setIfInBounds_toArray, List.set_cons_zero, List.set_cons_succ])
                refine wpAnyH_take (i := 22) (v := undef) (by exact op_at rfl) (by kernel_rfl) (by kernel_rfl) (by kernel_rfl) (by exact fun _ _ _ h => h) (Or.inr ⟨by rfl, rfl⟩) hH ?restx51
                (try simp only [Act.put, List.setIfInBounds_toArray, List.set_cons_zero, List.set_cons_succ])
                refine wpAnyH_take (i := 23) (v := undef) (by exact op_at rfl) (by kernel_rfl) (by kernel_rfl) (by kernel_rfl) (by exact fun _ _ _ h => h) (Or.inr ⟨by rfl, rfl⟩) hH ?restx52
                (try simp only [Act.put, List.setIfInBounds_toArray, List.set_cons_zero, List.set_cons_succ])
                refine wpAnyH_take (i := 24) (v := ?vx53) (by exact op_at rfl) (by kernel_rfl) (by kernel_rfl) (by kernel_rfl) (by exact fun _ _ _ h => h) (Or.inl ⟨by rfl, ?hyx53⟩) hH ?restx53
                case hyx53 => (intro w' hSw; (try dsimp only at hSw); go_simp <;> with_reducible rfl)
                (try simp only [Act.put, List.setIfInBounds_toArray, List.set_cons_zero, List.set_cons_succ])
                refine wpAnyH_take (i := 25) (v := ?vx54) (by exact op_at rfl) (by kernel_rfl) (by kernel_rfl) (by kernel_rfl) (by exact fun _ _ _ h => h) (Or.inl ⟨by rfl, ?hyx54⟩) hH ?restx54
                case hyx54 => (intro w' hSw; (try dsimp only at hSw); go_simp <;> with_reducible rfl)
                (try simp only [Act.put, List.setIfInBounds_toArray, List.set_cons_zero, List.set_cons_succ])
                refine wpAnyH_done (by kernel_rfl) ?_ _
                go_wp2_with fail
                go_ret
                exact ⟨by simp, HKR.out.be.plain⟩
            · have S3 := S1.out
              go_wp2_with fail
              clear d0 d1 d2 d3
              refine wp_region_held_drew (S := (fun W => W.cell? ⟨w.heap.size, 0, none⟩ = some (.int .u32 f0) ∧ W.cell? ⟨w.heap.size, 1, none⟩ = some (.int .u32 f1) ∧ W.cell? ⟨w.heap.size, 2, none⟩ = some (.int .u32 f2) ∧ W.cell? ⟨w.heap.size, 3, none⟩ = some (.int .u32 f3) ∧ W.cell? ⟨g, 0, none⟩ = some (.int .u32 x0) ∧ W.cell? ⟨g, 1, none⟩ = some (.int .u32 x1) ∧ W.cell? ⟨g, 2, none⟩ = some (.int .u32 x2) ∧ W.cell? ⟨g, 3, none⟩ = some (.int .u32 x3) ∧ W.cell? ⟨g, 4, none⟩ = some (.int .u32 y0) ∧ W.cell? ⟨g, 5, none⟩ = some (.int .u32 y1) ∧ W.cell? ⟨g, 6, none⟩ = some (.int .u32 y2) ∧ W.cell? ⟨g, 7, none⟩ = some (.int .u32 y3) ∧ W.cell? ⟨w4.heap.size + 1, 0, none⟩ = some (.int .u32 z0) ∧ W.cell? ⟨w4.heap.size + 1, 1, none⟩ = some (.int .u32 z1) ∧ W.cell? ⟨w4.heap.size + 1, 2, none⟩ = some (.int .u32 z2) ∧ W.cell? ⟨w4.heap.size + 1, 3, none⟩ = some (.int .u32 z3) ∧ W.cell? ⟨w4.heap.size + 1, 4, none⟩ = some (.int .u32 v0) ∧ W.cell? ⟨w4.heap.size + 1, 5, none⟩ = some (.int .u32 v1) ∧ W.cell? ⟨w4.heap.size + 1, 6, none⟩ = some (.int .u32 v2) ∧ W.cell? ⟨w4.heap.size + 1, 7, none⟩ = some (.int .u32 v3))) (by kernel_rfl) ?hsx55 (fun hH => ?restx55)
              case hsx55 => (try dsimp only); with_reducible exact allF HKR.out
              refine wpAnyH_take (i := 0) (v := ?vx56) (by exact op_at rfl) (by kernel_rfl) (by kernel_rfl) (by kernel_rfl) (by exact fun _ _ _ h => h) (Or.inl ⟨by rfl, ?hyx56⟩) hH ?restx56
              case hyx56 => (intro w' hSw; (try dsimp only at hSw); go_simp <;> with_reducible rfl)
              (try simp only [Act.put, List.setIfInBounds_toArray, List.set_cons_zero, List.set_cons_succ])
              refine wpAnyH_take (i := 1) (v := ?vx57) (by exact op_at rfl) (by kernel_rfl) (by kernel_rfl) (by kernel_rfl) (by exact fun _ _ _ h => h) (Or.inl ⟨by rfl, ?hyx57⟩) hH ?restx57
              case hyx57 => (intro w' hSw; (try dsimp only at hSw); go_simp <;> with_reducible rfl)
              (try simp only [Act.put, List.setIfInBounds_toArray, List.set_cons_zero, List.set_cons_succ])
              refine wpAnyH_take (i := 2) (v := ?vx58) (by exact op_at rfl) (by kernel_rfl) (by kernel_rfl) (by kernel_rfl) (by exact fun _ _ _ h => h) (Or.inl ⟨by rfl, ?hyx58⟩) hH ?restx58
              case hyx58 => (intro w' hSw; (try dsimp only at hSw); go_simp <;> with_reducible rfl)
              (try simp only [Act.put, List.setIfInBounds_toArray, List.set_cons_zero, List.set_cons_succ])
              refine wpAnyH_take (i := 3) (v := ?vx59) (by exact op_at rfl) (by kernel_rfl) (by kernel_rfl) (by kernel_rfl) (by exact fun _ _ _ h => h) (Or.inl ⟨by rfl, ?hyx59⟩) hH ?restx59
              case hyx59 => (intro w' hSw; (try dsimp only at hSw); go_simp <;> with_reducible rfl)
              (try simp only [Act.put, List.setIfInBounds_toArray, List.set_cons_zero, List.set_cons_succ])
              refine wpAnyH_take (i := 4) (v := undef) (by exact op_at rfl) (by kernel_rfl) (by kernel_rfl) (by kernel_rfl) (by exact fun _ _ _ h => h) (Or.inr ⟨by rfl, rfl⟩) hH ?restx60
              (try simp only [Act.put, List.setIfInBounds_toArray, List.set_cons_zero, List.set_cons_succ])
              refine wpAnyH_take (i := 5) (v := undef) (by exact op_at rfl) (by kernel_rfl) (by kernel_rfl) (by kernel_rfl) (by exact fun _ _ _ h => h) (Or.inr ⟨by rfl, rfl⟩) hH ?restx61
              (try simp only [Act.put, List.setIfInBounds_toArray, List.set_cons_zero, List.set_cons_succ])
              refine wpAnyH_take (i := 6) (v := undef) (by exact op_at rfl) (by kernel_rfl) (by kernel_rfl) (by kernel_rfl) (by exact fun _ _ _ h => h) (Or.inr ⟨by rfl, rfl⟩) hH ?restx62
              (try simp only [Act.put, List.setIfInBounds_toArray, List.set_cons_zero, List.set_cons_succ])
              refine wpAnyH_take (i := 7) (v := undef) (by exact op_at rfl) (by kernel_rfl) (by kernel_rfl) (by kernel_rfl) (by exact fun _ _ _ h => h) (Or.inr ⟨by rfl, rfl⟩) hH ?restx63
              (try simp only [Act.put, List.setIfInBounds_toArray, List.set_cons_zero, List.set_cons_succ])
              refine wpAnyH_take (i := 9) (v := undef) (by exact op_at rfl) (by kernel_rfl) (by kernel_rfl) (by kernel_rfl) (by exact fun _ _ _ h => h) (Or.inr ⟨by rfl, rfl⟩) hH ?restx64
              (try simp only [Act.put, List.setIfInBounds_toArray, List.set_cons_zero, List.set_cons_succ])
              refine wpAnyH_take (i := 10) (v := undef) (by exact op_at rfl) (by kernel_rfl) (by kernel_rfl) (by kernel_rfl) (by exact fun _ _ _ h => h) (Or.inr ⟨by rfl, rfl⟩) hH ?restx65
              (try simp only [Act.put, List.setIfInBounds_toArray, List.set_cons_zero, List.set_cons_succ])
              refine wpAnyH_take (i := 11) (v := undef) (by exact op_at rfl) (by kernel_rfl) (by kernel_rfl) (by kernel_rfl) (by exact fun _ _ _ h => h) (Or.inr ⟨by rfl, rfl⟩) hH ?restx66
              (try simp only [Act.put, List.setIfInBounds_toArray, List.set_cons_zero, List.set_cons_succ])
              refine wpAnyH_take (i := 12) (v := undef) (by exact op_at rfl) (by kernel_rfl) (by kernel_rfl) (by kernel_rfl) (by exact fun _ _ _ h => h) (Or.inr ⟨by rfl, rfl⟩) hH ?restx67
              (try simp only [Act.put, List.setIfInBounds_toArray, List.set_cons_zero, List.set_cons_succ])
              refine wpAnyH_take (i := 8) (v := undef) (by exact op_at rfl) (by kernel_rfl) (by kernel_rfl) (by kernel_rfl) (by exact fun _ _ _ h => h) (Or.inr ⟨by rfl, rfl⟩) hH ?restx68
              (try simp only [Act.put, List.setIfInBounds_toArray, List.set_cons_zero, List.set_cons_succ])
              refine wpAnyH_take (i := 13) (v := undef) (by exact op_at rfl) (by kernel_rfl) (by kernel_rfl) (by kernel_rfl) (by exact fun _ _ _ h => h) (Or.inr ⟨by rfl, rfl⟩) hH ?restx69
              (try simp only [Act.put, List.setIfInBounds_toArray, List.set_cons_zero, List.set_cons_succ])
              refine wpAnyH_take (i := 14) (v := undef) (by exact op_at rfl) (by kernel_rfl) (by kernel_rfl) (by kernel_rfl) (by exact fun _ _ _ h => h) (Or.inr ⟨by rfl, rfl⟩) hH ?restx70
              (try simp only [Act.put, List.setIfInBounds_toArray, List.set_cons_zero, List.set_cons_succ])
              refine wpAnyH_take (i := 15) (v := ?vx71) (by exact op_at rfl) (by kernel_rfl) (by kernel_rfl) (by kernel_rfl) (by exact fun _ _ _ h => h) (Or.inl ⟨by rfl, ?hyx71⟩) hH ?restx71
              case hyx71 => (intro w' hSw; (try dsimp only at hSw); go_simp <;> with_reducible rfl)
              (try simp only [Act.put, List.setIfInBounds_toArray, List.set_cons_zero, List.set_cons_succ])
              refine wpAnyH_take (i := 16) (v := ?vx72) (by exact op_at rfl) (by kernel_rfl) (by kernel_rfl) (by kernel_rfl) (by exact fun _ _ _ h => h) (Or.inl ⟨by rfl, ?hyx72⟩) hH ?restx72
              case hyx72 => (intro w' hSw; (try dsimp only at hSw); go_simp <;> with_reducible rfl)
              (try simp only [Act.put, List.setIfInBounds_toArray, List.set_cons_zero, List.set_cons_succ])
              refine wpAnyH_take (i := 17) (v := ?vx73) (by exact op_at rfl) (by kernel_rfl) (by kernel_rfl) (by kernel_rfl) (by exact fun _ _ _ h => h) (Or.inl ⟨by rfl, ?hyx73⟩) hH ?restx73
              case hyx73 => (intro w' hSw; (try dsimp only at hSw); go_simp <;> with_reducible rfl)
              (try simp only [Act.put, List.setIfInBounds_toArray, List.set_cons_zero, List.set_cons_succ])
              refine wpAnyH_take (i := 18) (v := ?vx74) (by exact op_at rfl) (by kernel_rfl) (by kernel_rfl) (by kernel_rfl) (by exact fun _ _ _ h => h) (Or.inl ⟨by rfl, ?hyx74⟩) hH ?restx74
              case hyx74 => (intro w' hSw; (try dsimp only at hSw); go_simp <;> with_reducible rfl)
              (try simp only [Act.put, List.setIfInBounds_toArray, List.set_cons_zero, List.set_cons_succ])
              refine wpAnyH_take (i := 19) (v := ?vx75) (by exact op_at rfl) (by kernel_rfl) (by kernel_rfl) (by kernel_rfl) (by exact fun _ _ _ h => h) (Or.inl ⟨by rfl, ?hyx75⟩) hH ?restx75
              case hyx75 => (intro w' hSw; (try dsimp only at hSw); go_simp <;> with_reducible rfl)
              (try simp only [Act.put, List.setIfInBounds_toArray, List.set_cons_zero, List.set_cons_succ])
              refine wpAnyH_take (i := 20) (v := ?vx76) (by exact op_at rfl) (by kernel_rfl) (by kernel_rfl) (by kernel_rfl) (by exact fun _ _ _ h => h) (Or.inl ⟨by rfl, ?hyx76⟩) hH ?restx76
              case hyx76 => (intro w' hSw; (try dsimp only at hSw); go_simp <;> with_reducible rfl)
              (try simp only [Act.put, List.setIfInBounds_toArray, List.set_cons_zero, List.set_cons_succ])
              refine wpAnyH_take (i := 21) (v := ?vx77) (by exact op_at rfl) (by kernel_rfl) (by kernel_rfl) (by kernel_rfl) (by exact fun _ _ _ h => h) (Or.inl ⟨by rfl, ?hyx77⟩) hH ?restx77
              case hyx77 => (intro w' hSw; (try dsimp only at hSw); go_simp <;> with_reducible rfl)
              (try simp only [Act.put, List.setIfInBounds_toArray, List.set_cons_zero, List.set_cons_succ])
              refine wpAnyH_take (i := 22) (v := ?vx78) (by exact op_at rfl) (by kernel_rfl) (by kernel_rfl) (by kernel_rfl) (by exact fun _ _ _ h => h) (Or.inl ⟨by rfl, ?hyx78⟩) hH ?restx78
              case hyx78 => (intro w' hSw; (try dsimp only at hSw); go_simp <;> with_reducible rfl)
              (try simp only [Act.put, List.setIfInBounds_toArray, List.set_cons_zero, List.set_cons_succ])
              refine wpAnyH_ready (rs := [23]) (by kernel_rfl) (by simp) ?_
              refine AllReadyH.cons (op_at rfl) (fun K hK => ?_) AllReadyH.nil
              go_simp
              go_at_call 13
              (with_reducible refine (C6.out _ (HR1.out.oldn HKR.out) (Dd.row (HD2.out.dropLast.oldn HKR.out)) (HT.out.oldn HKR.out)).mono ?_)
              rintro e w' ⟨rfl, hb⟩
              replace HKR := Lib.hid (HKR.out.after hb)
              clear hb
              go_simp
              refine hK.out _ _ ?hsx79 (fun hN => ?restx79)
              case hsx79 => (try dsimp only); with_reducible exact allF HKR.out
              clear hK K hH
              have hH := hN
              clear hN
              (try simp only [Act.put, List.setIfInBounds_toArray, List.set_cons_zero, List.set_cons_succ])
              refine wpAnyH_take (i := 24) (v := ?vx80) (by exact op_at rfl) (by kernel_rfl) (by kernel_rfl) (by kernel_rfl) (by exact fun _ _ _ h => h) (Or.inl ⟨by rfl, ?hyx80⟩) hH ?restx80
              case hyx80 => (intro w' hSw; (try dsimp only at hSw); go_simp <;> with_reducible rfl)
              (try simp only [Act.put, List.setIfInBounds_toArray, List.set_cons_zero, List.set_cons_succ])
              refine wpAnyH_take (i := 25) (v := ?vx81) (by exact op_at rfl) (by kernel_rfl) (by kernel_rfl) (by kernel_rfl) (by exact fun _ _ _ h => h) (Or.inl ⟨by rfl, ?hyx81⟩) hH ?restx81
              case hyx81 => (intro w' hSw; (try dsimp only at hSw); go_simp <;> with_reducible rfl)
              (try simp only [Act.put, List.setIfInBounds_toArray, List.set_cons_zero, List.set_cons_succ])
              refine wpAnyH_done (by kernel_rfl) ?_ _
              go_wp2_with fail
              go_ret
              exact ⟨by simp, HKR.out.be.plain⟩
        · skip
          have hz4 := mup_ok (n - hf n) (i - hf n) [f0, f1, f2, f3] p.dropLast ho hop.dropLast
          have c3 := fun w => up_ref (n - hf n) (i - hf n) (c - 1) capp (some ⟨b2, off2, none⟩) [f0, f1, f2, f3] p.dropLast w (by omega) (by omega) (by rw [List.length_dropLast, hp]) (by omega) (by omega) hmp ho
          have c6 := fun w => ih (n - hf n) (by omega) (i - hf n) (l.drop (hf n)) b (off + hf n * 4) (c - 1) (cap - hf n) capp (some ⟨b2, off2, none⟩) [f0, f1, f2, f3] p.dropLast w (by rw [List.length_drop, hl]) (by omega) (by omega) (by omega) (by omega) (by rw [List.length_dropLast, hp]) (by omega) (by omega) hmp ho
          rw [mfool, dif_neg (by omega), if_neg hp0, if_neg (by rw [hl]; exact hik)]
          unfold mhv
          rw [hl, e1, e2, hlast]
          obtain ⟨CR, hCR⟩ : ∃ CR, mup (n - hf n) (i - hf n) [f0, f1, f2, f3] p.dropLast = CR := ⟨_, rfl⟩
          rw [hCR] at hz4 c3 ⊢
          obtain ⟨zz, okb⟩ := CR
          obtain ⟨z0, z1, z2, z3, rfl, _⟩ := ok4 hz4
          simp only
          obtain ⟨rec, hrec⟩ : ∃ rec, mfool (l.drop (hf n)) (i - hf n) [f0, f1, f2, f3] p.dropLast = rec := ⟨_, rfl⟩
          rw [hrec] at c6 ⊢
          have oq := pair_ok0 hlo hz4
          have cq := fun w => pair_ref [v0, v1, v2, v3] [z0, z1, z2, z3] w hlo hz4
          obtain ⟨u0, u1, u2, u3, hu, _⟩ := ok4 ox
          obtain ⟨t0, t1, t2, t3, ht2, _⟩ := ok4 oq
          rw [hu] at cx ⊢
          rw [ht2] at cq ⊢
          rw [ag4, ag4, ag4] at cx cq
          rw [ag4] at c3 c6
          rw [show ((n - hf n : Nat) : Int) = (n : Int) - (hf n : Int) by omega, show ((i - hf n : Nat) : Int) = (i : Int) - (hf n : Int) by omega] at c3
          rw [show ((i - hf n : Nat) : Int) = (i : Int) - (hf n : Int) by omega] at c6
          have hres : ((decide ((([x0, x1, x2, x3], [y0, y1, y2, y3]) : Ws × Ws) ≠ ([v0, v1, v2, v3], [z0, z1, z2, z3])) && decide (([u0, u1, u2, u3] : Ws) = [t0, t1, t2, t3])) || rec) = ((!(sameP [x0, x1, x2, x3] [y0, y1, y2, y3] [v0, v1, v2, v3] [z0, z1, z2, z3]) && same [u0, u1, u2, u3] [t0, t1, t2, t3]) || rec) := by
            congr 2
            unfold sameP same
            rw [Bool.eq_iff_iff]
            simp only [ne_eq, Prod.mk.injEq, decide_eq_true_eq, Bool.not_eq_true', Bool.and_eq_false_iff, decide_eq_false_iff_not]
            exact Decidable.not_and_iff_not_or_not
          rw [hres]
          obtain ⟨bs, hbs⟩ : ∃ bs, sameP [x0, x1, x2, x3] [y0, y1, y2, y3] [v0, v1, v2, v3] [z0, z1, z2, z3] = bs := ⟨_, rfl⟩
          obtain ⟨bt, hbt⟩ : ∃ bt, same [u0, u1, u2, u3] [t0, t1, t2, t3] = bt := ⟨_, rfl⟩
          rw [hbs, hbt]
          have S1 := Lib.hid hbs
          have S2 := Lib.hid hbt
          obtain ⟨k, hk⟩ : ∃ k, hf n = k := ⟨_, rfl⟩
          rw [hk] at C c1 c2 c3 c6 k1 k2 hik r1 r2
          have HC := Lib.hid C
          have C1 := Lib.hid c1
          have C2 := Lib.hid c2
          have C3 := Lib.hid c3
          have C4 := Lib.hid cx
          have C5 := Lib.hid cq
          have C6 := Lib.hid c6
          have HR1 := Lib.hid r1
          have HR2 := Lib.hid r2
          have i5 : k ≤ n := by omega
          have i6 : k ≤ cap := by omega
          have i7 : ¬ cap = k := by omega
          have j0 : 0 ≤ (i : Int) - (k : Int) := by omega
          have j1 : 0 ≤ (n : Int) - (k : Int) := by omega
          have j2 : IntKind.i64.wrap ((i : Int) - (k : Int)) = (i : Int) - (k : Int) := by
            rw [IntKind.wrap_i64]
            all_goals omega
          clear hl ih hol hop ho C c1 c2 c3 c6 cx cq ox oq oz hz4 hp hCR hk hlast hp0 hr hr2 r1 r2 e1 e2 hrec hu ht2 hres hbs hbt hdp
          rw [ag4]
          go_enter Tryd.func13, Tryd.ntmps13
          go_wp2_with fail
          refine (HC.out _).mono ?_
          rintro e w2 ⟨rfl, rfl⟩
          go_upto_region 6 with fail
          go_cut [12] (fun s12 wx => ∃ g : Nat, s12 = .pointer (some ⟨g, 0, none⟩) ∧ Hid (Kx none w wx [(w.heap.size, .cells #[.int .u32 f0, .int .u32 f1, .int .u32 f2, .int .u32 f3] 26 (0, 0)), (w.heap.size + 1, .cells #[.int .u32 v0, .int .u32 v1, .int .u32 v2, .int .u32 v3] 26 (0, 0)), (g, .cells #[.int .u32 x0, .int .u32 x1, .int .u32 x2, .int .u32 x3, .int .u32 y0, .int .u32 y1, .int .u32 y2, .int .u32 y3] 27 (0, 0))]))
          case first =>
            have HKN := HK
            have HGE := Lib.hid (show w.heap.size ≤ w.heap.size + 1 + 1 by omega)
            replace HK := Lib.hid HK.out.drew
            go_region_law (first
              | (go_simp; go_at_call 18; (with_reducible refine (C1.out _ (HR1.out.oldn HK.out) (HT.out.oldn HK.out)).mono ?_); rintro e w' ⟨rfl, hb⟩; replace HK := Lib.hid (HK.out.after hb); clear hb)
              | (go_simp; go_at_call 18; (with_reducible refine (C1.out _ (HR1.out.oldn (HKN.out.more _).drew) (HT.out.oldn (HKN.out.more _).drew)).mono ?_); rintro e w' ⟨rfl, hb⟩; have hge := HGE.out; replace HK := Lib.hid ((HKN.out.add (w.heap.size + 1 + 1) (by simp) (.cells #[.int .u32 0, .int .u32 0, .int .u32 0, .int .u32 0, .int .u32 0, .int .u32 0, .int .u32 0, .int .u32 0] 27 (0, 0))).drew.after hb); clear hb)
              | (go_simp; go_at_call 18; (with_reducible refine (C2.out _ (HR2.out.oldn HK.out) (HT.out.oldn HK.out)).mono ?_); rintro e w' ⟨rfl, hb⟩; replace HK := Lib.hid (HK.out.after hb); clear hb; try (obtain ⟨b0, b1, b2, b3, b4, b5, b6, b7, e0, e1, e2, e3, e4, e5, e6, e7⟩ := cells8 (HK.out.at 2 rfl)))
              | (go_simp; go_at_call 18; (with_reducible refine (C2.out _ (HR2.out.oldn (HK.out.more _)) (HT.out.oldn (HK.out.more _))).mono ?_); rintro e w' ⟨rfl, hb⟩; have hge := HK.out.be.size; replace HK := Lib.hid ((HK.out.more (.cells #[.int .u32 0, .int .u32 0, .int .u32 0, .int .u32 0, .int .u32 0, .int .u32 0, .int .u32 0, .int .u32 0] 27 (0, 0))).after hb); clear hb; obtain ⟨b0, b1, b2, b3, b4, b5, b6, b7, e0, e1, e2, e3, e4, e5, e6, e7⟩ := cells8 (HK.out.at 2 rfl)))
            all_goals
              go_wp2_with fail
              go_meet
              first
                | exact ⟨_, rfl, Lib.hid (HK.out.put8 2 rfl (.inr hge) (.int .u32 x0) (.int .u32 x1) (.int .u32 x2) (.int .u32 x3) (.int .u32 y0) (.int .u32 y1) (.int .u32 y2) (.int .u32 y3))⟩
                | exact ⟨_, rfl, Lib.hid (HK.out.more _)⟩
          case rest =>
            obtain ⟨g, rfl, HKC⟩ := hcut
            clear HK HKA C1 C2 HC g0 g1 g2 g3
            obtain ⟨a0, a1, a2, a3, _⟩ := cells4 (HKC.out.at 0 rfl)
            obtain ⟨d0, d1, d2, d3, _⟩ := cells4 (HKC.out.at 1 rfl)
            go_wp2_with fail
            clear a0 a1 a2 a3 d0 d1 d2 d3
            refine (C3.out _ (Dd.row (HD2.out.dropLast.oldn HKC.out))).mono ?_
            rintro e w4 ⟨rfl, hb⟩
            have HK := Lib.hid (((HKC.out.after hb).add _ rfl (.cells #[.int .u32 z0, .int .u32 z1, .int .u32 z2, .int .u32 z3] 26 (0, 0))).add (w4.heap.size + 1) (by simp) (.cells #[.int .u32 v0, .int .u32 v1, .int .u32 v2, .int .u32 v3, .int .u32 z0, .int .u32 z1, .int .u32 z2, .int .u32 z3] 27 (0, 0)))
            have HK3 := Lib.hid ((HKC.out.after hb).add _ rfl (.cells #[.int .u32 z0, .int .u32 z1, .int .u32 z2, .int .u32 z3] 26 (0, 0)))
            clear hb HKC
            obtain ⟨d0, d1, d2, d3, _⟩ := cells4 (HK3.out.at 1 rfl)
            rw [ag4]
            have hk := HK.out.drew
            simp only [List.cons_append, List.nil_append] at hk
            have HKR := Lib.hid hk
            clear hk
            cases bs
            · cases bt
              · have S3 := S1.out
                have S4 := S2.out
                go_wp2_with fail
                clear d0 d1 d2 d3
                refine wp_region_held_drew (S := (fun W => W.cell? ⟨w.heap.size, 0, none⟩ = some (.int .u32 f0) ∧ W.cell? ⟨w.heap.size, 1, none⟩ = some (.int .u32 f1) ∧ W.cell? ⟨w.heap.size, 2, none⟩ = some (.int .u32 f2) ∧ W.cell? ⟨w.heap.size, 3, none⟩ = some (.int .u32 f3) ∧ W.cell? ⟨g, 0, none⟩ = some (.int .u32 x0) ∧ W.cell? ⟨g, 1, none⟩ = some (.int .u32 x1) ∧ W.cell? ⟨g, 2, none⟩ = some (.int .u32 x2) ∧ W.cell? ⟨g, 3, none⟩ = some (.int .u32 x3) ∧ W.cell? ⟨g, 4, none⟩ = some (.int .u32 y0) ∧ W.cell? ⟨g, 5, none⟩ = some (.int .u32 y1) ∧ W.cell? ⟨g, 6, none⟩ = some (.int .u32 y2) ∧ W.cell? ⟨g, 7, none⟩ = some (.int .u32 y3) ∧ W.cell? ⟨w4.heap.size + 1, 0, none⟩ = some (.int .u32 v0) ∧ W.cell? ⟨w4.heap.size + 1, 1, none⟩ = some (.int .u32 v1) ∧ W.cell? ⟨w4.heap.size + 1, 2, none⟩ = some (.int .u32 v2) ∧ W.cell? ⟨w4.heap.size + 1, 3, none⟩ = some (.int .u32 v3) ∧ W.cell? ⟨w4.heap.size + 1, 4, none⟩ = some (.int .u32 z0) ∧ W.cell? ⟨w4.heap.size + 1, 5, none⟩ = some (.int .u32 z1) ∧ W.cell? ⟨w4.heap.size + 1, 6, none⟩ = some (.int .u32 z2) ∧ W.cell? ⟨w4.heap.size + 1, 7, none⟩ = some (.int .u32 z3))) (by kernel_rfl) ?hsx82 (fun hH => ?restx82)
                case hsx82 => (try dsimp only); with_reducible exact allF HKR.out
                refine wpAnyH_take (i := 0) (v := ?vx83) (by exact op_at rfl) (by kernel_rfl) (by kernel_rfl) (by kernel_rfl) (by exact fun _ _ _ h => h) (Or.inl ⟨by rfl, ?hyx83⟩) hH ?restx83
                case hyx83 => (intro w' hSw; (try dsimp only at hSw); go_simp <;> with_reducible rfl)
                (try simp only [Act.put, List.setIfInBounds_toArray, List.set_cons_zero, List.set_cons_succ])
                refine wpAnyH_take (i := 1) (v := ?vx84) (by exact op_at rfl) (by kernel_rfl) (by kernel_rfl) (by kernel_rfl) (by exact fun _ _ _ h => h) (Or.inl ⟨by rfl, ?hyx84⟩) hH ?restx84
                case hyx84 => (intro w' hSw; (try dsimp only at hSw); go_simp <;> with_reducible rfl)
                (try simp only [Act.put, List.setIfInBounds_toArray, List.set_cons_zero, List.set_cons_succ])
                refine wpAnyH_take (i := 2) (v := ?vx85) (by exact op_at rfl) (by kernel_rfl) (by kernel_rfl) (by kernel_rfl) (by exact fun _ _ _ h => h) (Or.inl ⟨by rfl, ?hyx85⟩) hH ?restx85
                case hyx85 => (intro w' hSw; (try dsimp only at hSw); go_simp <;> with_reducible rfl)
                (try simp only [Act.put, List.setIfInBounds_toArray, List.set_cons_zero, List.set_cons_succ])
                refine wpAnyH_take (i := 3) (v := ?vx86) (by exact op_at rfl) (by kernel_rfl) (by kernel_rfl) (by kernel_rfl) (by exact fun _ _ _ h => h) (Or.inl ⟨by rfl, ?hyx86⟩) hH ?restx86
                case hyx86 => (intro w' hSw; (try dsimp only at hSw); go_simp <;> with_reducible rfl)
                (try simp only [Act.put, List.setIfInBounds_toArray, List.set_cons_zero, List.set_cons_succ])
                refine wpAnyH_take (i := 4) (v := ?vx87) (by exact op_at rfl) (by kernel_rfl) (by kernel_rfl) (by kernel_rfl) (by exact fun _ _ _ h => h) (Or.inl ⟨by rfl, ?hyx87⟩) hH ?restx87
                case hyx87 => (intro w' hSw; (try dsimp only at hSw); go_simp <;> with_reducible rfl)
                (try simp only [Act.put, List.setIfInBounds_toArray, List.set_cons_zero, List.set_cons_succ])
                refine wpAnyH_take (i := 5) (v := ?vx88) (by exact op_at rfl) (by kernel_rfl) (by kernel_rfl) (by kernel_rfl) (by exact fun _ _ _ h => h) (Or.inl ⟨by rfl, ?hyx88⟩) hH ?restx88
                case hyx88 => (intro w' hSw; (try dsimp only at hSw); go_simp <;> with_reducible rfl)
                (try simp only [Act.put, List.setIfInBounds_toArray, List.set_cons_zero, List.set_cons_succ])
                refine wpAnyH_take (i := 6) (v := ?vx89) (by exact op_at rfl) (by kernel_rfl) (by kernel_rfl) (by kernel_rfl) (by exact fun _ _ _ h => h) (Or.inl ⟨by rfl, ?hyx89⟩) hH ?restx89
                case hyx89 => (intro w' hSw; (try dsimp only at hSw); go_simp <;> with_reducible rfl)
                (try simp only [Act.put, List.setIfInBounds_toArray, List.set_cons_zero, List.set_cons_succ])
                refine wpAnyH_take (i := 7) (v := ?vx90) (by exact op_at rfl) (by kernel_rfl) (by kernel_rfl) (by kernel_rfl) (by exact fun _ _ _ h => h) (Or.inl ⟨by rfl, ?hyx90⟩) hH ?restx90
                case hyx90 => (intro w' hSw; (try dsimp only at hSw); go_simp <;> with_reducible rfl)
                (try simp only [Act.put, List.setIfInBounds_toArray, List.set_cons_zero, List.set_cons_succ])
                refine wpAnyH_take (i := 9) (v := ?vx91) (by exact op_at rfl) (by kernel_rfl) (by kernel_rfl) (by kernel_rfl) (by exact fun _ _ _ h => h) (Or.inl ⟨by rfl, ?hyx91⟩) hH ?restx91
                case hyx91 => (intro w' hSw; (try dsimp only at hSw); go_simp <;> with_reducible rfl)
                (try simp only [Act.put, List.setIfInBounds_toArray, List.set_cons_zero, List.set_cons_succ])
                refine wpAnyH_take (i := 10) (v := ?vx92) (by exact op_at rfl) (by kernel_rfl) (by kernel_rfl) (by kernel_rfl) (by exact fun _ _ _ h => h) (Or.inl ⟨by rfl, ?hyx92⟩) hH ?restx92
                case hyx92 => (intro w' hSw; (try dsimp only at hSw); go_simp <;> with_reducible rfl)
                (try simp only [Act.put, List.setIfInBounds_toArray, List.set_cons_zero, List.set_cons_succ])
                refine wpAnyH_take (i := 11) (v := ?vx93) (by exact op_at rfl) (by kernel_rfl) (by kernel_rfl) (by kernel_rfl) (by exact fun _ _ _ h => h) (Or.inl ⟨by rfl, ?hyx93⟩) hH ?restx93
                case hyx93 => (intro w' hSw; (try dsimp only at hSw); go_simp <;> with_reducible rfl)
                (try simp only [Act.put, List.setIfInBounds_toArray, List.set_cons_zero, List.set_cons_succ])
                refine wpAnyH_take (i := 12) (v := ?vx94) (by exact op_at rfl) (by kernel_rfl) (by kernel_rfl) (by kernel_rfl) (by exact fun _ _ _ h => h) (Or.inl ⟨by rfl, ?hyx94⟩) hH ?restx94
                case hyx94 => (intro w' hSw; (try dsimp only at hSw); go_simp <;> with_reducible rfl)
                (try simp only [Act.put, List.setIfInBounds_toArray, List.set_cons_zero, List.set_cons_succ])
                refine wpAnyH_ready (rs := [8]) (by kernel_rfl) (by simp) ?_
                refine AllReadyH.cons (op_at rfl) (fun K hK => ?_) AllReadyH.nil
                go_simp
                go_at_call 10
                (with_reducible refine (C4.out _).mono ?_)
                rintro e w' ⟨rfl, hb⟩
                replace HKR := Lib.hid (HKR.out.after hb)
                clear hb
                go_simp
                refine hK.out _ _ ?hsx95 (fun hN => ?restx95)
                case hsx95 => (try dsimp only); with_reducible exact allF HKR.out
                clear hK K hH
                have hH := hN
                clear hN
                (try simp only [Act.put, List.setIfInBounds_toArray, List.set_cons_zero, List.set_cons_succ])
                refine wpAnyH_ready (rs := [13]) (by kernel_rfl) (by simp) ?_
                refine AllReadyH.cons (op_at rfl) (fun K hK => ?_) AllReadyH.nil
                go_simp
                go_at_call 10
                (with_reducible refine (C5.out _).mono ?_)
                rintro e w' ⟨rfl, hb⟩
                replace HKR := Lib.hid (HKR.out.after hb)
                clear hb
                go_simp
                refine hK.out _ _ ?hsx96 (fun hN => ?restx96)
                case hsx96 => (try dsimp only); with_reducible exact allF HKR.out
                clear hK K hH
                have hH := hN
                clear hN
                (try simp only [Act.put, List.setIfInBounds_toArray, List.set_cons_zero, List.set_cons_succ])
                refine wpAnyH_take (i := 14) (v := ?vx97) (by exact op_at rfl) (by kernel_rfl) (by kernel_rfl) (by kernel_rfl) (by exact fun _ _ _ h => h) (Or.inl ⟨by rfl, ?hyx97⟩) hH ?restx97
                case hyx97 => (intro w' hSw; (try dsimp only at hSw); go_simp <;> with_reducible rfl)
                (try simp only [Act.put, List.setIfInBounds_toArray, List.set_cons_zero, List.set_cons_succ])
                refine wpAnyH_take (i := 15) (v := ?vx98) (by exact op_at rfl) (by kernel_rfl) (by kernel_rfl) (by kernel_rfl) (by exact fun _ _ _ h => h) (Or.inl ⟨by rfl, ?hyx98⟩) hH ?restx98
                case hyx98 => (intro w' hSw; (try dsimp only at hSw); go_simp <;> with_reducible rfl)
                (try simp only [Act.put, List.setIfInBounds_toArray, List.set_cons_zero, List.set_cons_succ])
                refine wpAnyH_take (i := 16) (v := ?vx99) (by exact op_at rfl) (by kernel_rfl) (by kernel_rfl) (by kernel_rfl) (by exact fun _ _ _ h => h) (Or.inl ⟨by rfl, ?hyx99⟩) hH ?restx99
                case hyx99 => (intro w' hSw; (try dsimp only at hSw); go_simp <;> with_reducible rfl)
                (try simp only [Act.put, List.setIfInBounds_toArray, List.set_cons_zero, List.set_cons_succ])
                refine wpAnyH_take (i := 17) (v := ?vx100) (by exact op_at rfl) (by kernel_rfl) (by kernel_rfl) (by kernel_rfl) (by exact fun _ _ _ h => h) (Or.inl ⟨by rfl, ?hyx100⟩) hH ?restx100
                case hyx100 => (intro w' hSw; (try dsimp only at hSw); go_simp <;> with_reducible rfl)
                (try simp only [Act.put, List.setIfInBounds_toArray, List.set_cons_zero, List.set_cons_succ])
                refine wpAnyH_take (i := 18) (v := ?vx101) (by exact op_at rfl) (by kernel_rfl) (by kernel_rfl) (by kernel_rfl) (by exact fun _ _ _ h => h) (Or.inl ⟨by rfl, ?hyx101⟩) hH ?restx101
                case hyx101 => (intro w' hSw; (try dsimp only at hSw); go_simp <;> with_reducible rfl)
                (try simp only [Act.put, List.setIfInBounds_toArray, List.set_cons_zero, List.set_cons_succ])
                refine wpAnyH_take (i := 19) (v := ?vx102) (by exact op_at rfl) (by kernel_rfl) (by kernel_rfl) (by kernel_rfl) (by exact fun _ _ _ h => h) (Or.inl ⟨by rfl, ?hyx102⟩) hH ?restx102
                case hyx102 => (intro w' hSw; (try dsimp only at hSw); go_simp <;> with_reducible rfl)
                (try simp only [Act.put, List.setIfInBounds_toArray, List.set_cons_zero, List.set_cons_succ])
                refine wpAnyH_take (i := 20) (v := ?vx103) (by exact op_at rfl) (by kernel_rfl) (by kernel_rfl) (by kernel_rfl) (by exact fun _ _ _ h => h) (Or.inl ⟨by rfl, ?hyx103⟩) hH ?restx103
                case hyx103 => (intro w' hSw; (try dsimp only at hSw); go_simp <;> with_reducible rfl)
                (try simp only [Act.put, List.setIfInBounds_toArray, List.set_cons_zero, List.set_cons_succ])
                refine wpAnyH_take (i := 21) (v := ?vx104) (by exact op_at rfl) (by kernel_rfl) (by kernel_rfl) (by kernel_rfl) (by exact fun _ _ _ h => h) (Or.inl ⟨by rfl, ?hyx104⟩) hH ?restx104
                case hyx104 => (intro w' hSw; (try dsimp only at hSw); go_simp <;> with_reducible rfl)
                (try simp only [Act.put, List.setIfInBounds_toArray, List.set_cons_zero, List.set_cons_succ])
                refine wpAnyH_take (i := 22) (v := ?vx105) (by exact op_at rfl) (by kernel_rfl) (by kernel_rfl) (by kernel_rfl) (by exact fun _ _ _ h => h) (Or.inl ⟨by rfl, ?hyx105⟩) hH ?restx105
                case hyx105 => (intro w' hSw; (try dsimp only at hSw); go_simp <;> with_reducible rfl)
                (try simp only [Act.put, List.setIfInBounds_toArray, List.set_cons_zero, List.set_cons_succ])
                refine wpAnyH_take (i := 23) (v := ?vx106) (by exact op_at rfl) (by kernel_rfl) (by kernel_rfl) (by kernel_rfl) (by exact fun _ _ _ h => h) (Or.inl ⟨by rfl, ?hyx106⟩) hH ?restx106
                case hyx106 => (intro w' hSw; (try dsimp only at hSw); go_simp <;> with_reducible rfl)
                (try simp only [Act.put, List.setIfInBounds_toArray, List.set_cons_zero, List.set_cons_succ])
                refine wpAnyH_take (i := 24) (v := ?vx107) (by exact op_at rfl) (by kernel_rfl) (by kernel_rfl) (by kernel_rfl) (by exact fun _ _ _ h => h) (Or.inl ⟨by rfl, ?hyx107⟩) hH ?restx107
                case hyx107 => (intro w' hSw; (try dsimp only at hSw); go_simp <;> with_reducible rfl)
                (try simp only [Act.put, List.setIfInBounds_toArray, List.set_cons_zero, List.set_cons_succ])
                refine wpAnyH_ready (rs := [25]) (by kernel_rfl) (by simp) ?_
                refine AllReadyH.cons (op_at rfl) (fun K hK => ?_) AllReadyH.nil
                go_simp
                go_at_call 13
                (with_reducible refine (C6.out _ (HR2.out.oldn HKR.out) (Dd.row (HD2.out.dropLast.oldn HKR.out)) (HT.out.oldn HKR.out)).mono ?_)
                rintro e w' ⟨rfl, hb⟩
                replace HKR := Lib.hid (HKR.out.after hb)
                clear hb
                go_simp
                refine hK.out _ _ ?hsx108 (fun hN => ?restx108)
                case hsx108 => (try dsimp only); with_reducible exact allF HKR.out
                clear hK K hH
                have hH := hN
                clear hN
                (try simp only [Act.put, List.setIfInBounds_toArray, List.set_cons_zero, List.set_cons_succ])
                refine wpAnyH_take (i := 26) (v := ?vx109) (by exact op_at rfl) (by kernel_rfl) (by kernel_rfl) (by kernel_rfl) (by exact fun _ _ _ h => h) (Or.inl ⟨by rfl, ?hyx109⟩) hH ?restx109
                case hyx109 => (intro w' hSw; (try dsimp only at hSw); go_simp <;> with_reducible rfl)
                (try simp only [Act.put, List.setIfInBounds_toArray, List.set_cons_zero, List.set_cons_succ])
                refine wpAnyH_take (i := 27) (v := ?vx110) (by exact op_at rfl) (by kernel_rfl) (by kernel_rfl) (by kernel_rfl) (by exact fun _ _ _ h => h) (Or.inl ⟨by rfl, ?hyx110⟩) hH ?restx110
                case hyx110 => (intro w' hSw; (try dsimp only at hSw); go_simp <;> with_reducible rfl)
                (try simp only [Act.put, List.setIfInBounds_toArray, List.set_cons_zero, List.set_cons_succ])
                refine wpAnyH_done (by kernel_rfl) ?_ _
                go_wp2_with fail
                go_ret
                exact ⟨by simp, HKR.out.be.plain⟩
              · have S3 := S1.out
                have S4 := S2.out
                go_wp2_with fail
                clear d0 d1 d2 d3
                refine wp_region_held_drew (S := (fun W => W.cell? ⟨w.heap.size, 0, none⟩ = some (.int .u32 f0) ∧ W.cell? ⟨w.heap.size, 1, none⟩ = some (.int .u32 f1) ∧ W.cell? ⟨w.heap.size, 2, none⟩ = some (.int .u32 f2) ∧ W.cell? ⟨w.heap.size, 3, none⟩ = some (.int .u32 f3) ∧ W.cell? ⟨g, 0, none⟩ = some (.int .u32 x0) ∧ W.cell? ⟨g, 1, none⟩ = some (.int .u32 x1) ∧ W.cell? ⟨g, 2, none⟩ = some (.int .u32 x2) ∧ W.cell? ⟨g, 3, none⟩ = some (.int .u32 x3) ∧ W.cell? ⟨g, 4, none⟩ = some (.int .u32 y0) ∧ W.cell? ⟨g, 5, none⟩ = some (.int .u32 y1) ∧ W.cell? ⟨g, 6, none⟩ = some (.int .u32 y2) ∧ W.cell? ⟨g, 7, none⟩ = some (.int .u32 y3) ∧ W.cell? ⟨w4.heap.size + 1, 0, none⟩ = some (.int .u32 v0) ∧ W.cell? ⟨w4.heap.size + 1, 1, none⟩ = some (.int .u32 v1) ∧ W.cell? ⟨w4.heap.size + 1, 2, none⟩ = some (.int .u32 v2) ∧ W.cell? ⟨w4.heap.size + 1, 3, none⟩ = some (.int .u32 v3) ∧ W.cell? ⟨w4.heap.size + 1, 4, none⟩ = some (.int .u32 z0) ∧ W.cell? ⟨w4.heap.size + 1, 5, none⟩ = some (.int .u32 z1) ∧ W.cell? ⟨w4.heap.size + 1, 6, none⟩ = some (.int .u32 z2) ∧ W.cell? ⟨w4.heap.size + 1, 7, none⟩ = some (.int .u32 z3))) (by kernel_rfl) ?hsx111 (fun hH => ?restx111)
                case hsx111 => (try dsimp only); with_reducible exact allF HKR.out
                refine wpAnyH_take (i := 0) (v := ?vx112) (by exact op_at rfl) (by kernel_rfl) (by kernel_rfl) (by kernel_rfl) (by exact fun _ _ _ h => h) (Or.inl ⟨by rfl, ?hyx112⟩) hH ?restx112
                case hyx112 => (intro w' hSw; (try dsimp only at hSw); go_simp <;> with_reducible rfl)
                (try simp only [Act.put, List.setIfInBounds_toArray, List.set_cons_zero, List.set_cons_succ])
                refine wpAnyH_take (i := 1) (v := ?vx113) (by exact op_at rfl) (by kernel_rfl) (by kernel_rfl) (by kernel_rfl) (by exact fun _ _ _ h => h) (Or.inl ⟨by rfl, ?hyx113⟩) hH ?restx113
                case hyx113 => (intro w' hSw; (try dsimp only at hSw); go_simp <;> with_reducible rfl)
                (try simp only [Act.put, List.setIfInBounds_toArray, List.set_cons_zero, List.set_cons_succ])
                refine wpAnyH_take (i := 2) (v := ?vx114) (by exact op_at rfl) (by kernel_rfl) (by kernel_rfl) (by kernel_rfl) (by exact fun _ _ _ h => h) (Or.inl ⟨by rfl, ?hyx114⟩) hH ?restx114
                case hyx114 => (intro w' hSw; (try dsimp only at hSw); go_simp <;> with_reducible rfl)
                (try simp only [Act.put, List.setIfInBounds_toArray, List.set_cons_zero, List.set_cons_succ])
                refine wpAnyH_take (i := 3) (v := ?vx115) (by exact op_at rfl) (by kernel_rfl) (by kernel_rfl) (by kernel_rfl) (by exact fun _ _ _ h => h) (Or.inl ⟨by rfl, ?hyx115⟩) hH ?restx115
                case hyx115 => (intro w' hSw; (try dsimp only at hSw); go_simp <;> with_reducible rfl)
                (try simp only [Act.put, List.setIfInBounds_toArray, List.set_cons_zero, List.set_cons_succ])
                refine wpAnyH_take (i := 4) (v := ?vx116) (by exact op_at rfl) (by kernel_rfl) (by kernel_rfl) (by kernel_rfl) (by exact fun _ _ _ h => h) (Or.inl ⟨by rfl, ?hyx116⟩) hH ?restx116
                case hyx116 => (intro w' hSw; (try dsimp only at hSw); go_simp <;> with_reducible rfl)
                (try simp only [Act.put, List.setIfInBounds_toArray, List.set_cons_zero, List.set_cons_succ])
                refine wpAnyH_take (i := 5) (v := ?vx117) (by exact op_at rfl) (by kernel_rfl) (by kernel_rfl) (by kernel_rfl) (by exact fun _ _ _ h => h) (Or.inl ⟨by rfl, ?hyx117⟩) hH ?restx117
                case hyx117 => (intro w' hSw; (try dsimp only at hSw); go_simp <;> with_reducible rfl)
                (try simp only [Act.put, List.setIfInBounds_toArray, List.set_cons_zero, List.set_cons_succ])
                refine wpAnyH_take (i := 6) (v := ?vx118) (by exact op_at rfl) (by kernel_rfl) (by kernel_rfl) (by kernel_rfl) (by exact fun _ _ _ h => h) (Or.inl ⟨by rfl, ?hyx118⟩) hH ?restx118
                case hyx118 => (intro w' hSw; (try dsimp only at hSw); go_simp <;> with_reducible rfl)
                (try simp only [Act.put, List.setIfInBounds_toArray, List.set_cons_zero, List.set_cons_succ])
                refine wpAnyH_take (i := 7) (v := ?vx119) (by exact op_at rfl) (by kernel_rfl) (by kernel_rfl) (by kernel_rfl) (by exact fun _ _ _ h => h) (Or.inl ⟨by rfl, ?hyx119⟩) hH ?restx119
                case hyx119 => (intro w' hSw; (try dsimp only at hSw); go_simp <;> with_reducible rfl)
                (try simp only [Act.put, List.setIfInBounds_toArray, List.set_cons_zero, List.set_cons_succ])
                refine wpAnyH_take (i := 9) (v := ?vx120) (by exact op_at rfl) (by kernel_rfl) (by kernel_rfl) (by kernel_rfl) (by exact fun _ _ _ h => h) (Or.inl ⟨by rfl, ?hyx120⟩) hH ?restx120
                case hyx120 => (intro w' hSw; (try dsimp only at hSw); go_simp <;> with_reducible rfl)
                (try simp only [Act.put, List.setIfInBounds_toArray, List.set_cons_zero, List.set_cons_succ])
                refine wpAnyH_take (i := 10) (v := ?vx121) (by exact op_at rfl) (by kernel_rfl) (by kernel_rfl) (by kernel_rfl) (by exact fun _ _ _ h => h) (Or.inl ⟨by rfl, ?hyx121⟩) hH ?restx121
                case hyx121 => (intro w' hSw; (try dsimp only at hSw); go_simp <;> with_reducible rfl)
                (try simp only [Act.put, List.setIfInBounds_toArray, List.set_cons_zero, List.set_cons_succ])
                refine wpAnyH_take (i := 11) (v := ?vx122) (by exact op_at rfl) (by kernel_rfl) (by kernel_rfl) (by kernel_rfl) (by exact fun _ _ _ h => h) (Or.inl ⟨by rfl, ?hyx122⟩) hH ?restx122
                case hyx122 => (intro w' hSw; (try dsimp only at hSw); go_simp <;> with_reducible rfl)
                (try simp only [Act.put, List.setIfInBounds_toArray, List.set_cons_zero, List.set_cons_succ])
                refine wpAnyH_take (i := 12) (v := ?vx123) (by exact op_at rfl) (by kernel_rfl) (by kernel_rfl) (by kernel_rfl) (by exact fun _ _ _ h => h) (Or.inl ⟨by rfl, ?hyx123⟩) hH ?restx123
                case hyx123 => (intro w' hSw; (try dsimp only at hSw); go_simp <;> with_reducible rfl)
                (try simp only [Act.put, List.setIfInBounds_toArray, List.set_cons_zero, List.set_cons_succ])
                refine wpAnyH_ready (rs := [8]) (by kernel_rfl) (by simp) ?_
                refine AllReadyH.cons (op_at rfl) (fun K hK => ?_) AllReadyH.nil
                go_simp
                go_at_call 10
                (with_reducible refine (C4.out _).mono ?_)
                rintro e w' ⟨rfl, hb⟩
                replace HKR := Lib.hid (HKR.out.after hb)
                clear hb
                go_simp
                refine hK.out _ _ ?hsx124 (fun hN => ?restx124)
                case hsx124 => (try dsimp only); with_reducible exact allF HKR.out
                clear hK K hH
                have hH := hN
                clear hN
                (try simp only [Act.put, List.setIfInBounds_toArray, List.set_cons_zero, List.set_cons_succ])
                refine wpAnyH_ready (rs := [13]) (by kernel_rfl) (by simp) ?_
                refine AllReadyH.cons (op_at rfl) (fun K hK => ?_) AllReadyH.nil
                go_simp
                go_at_call 10
                (with_reducible refine (C5.out _).mono ?_)
                rintro e w' ⟨rfl, hb⟩
                replace HKR := Lib.hid (HKR.out.after hb)
                clear hb
                go_simp
                refine hK.out _ _ ?hsx125 (fun hN => ?restx125)
                case hsx125 => (try dsimp only); with_reducible exact allF HKR.out
                clear hK K hH
                have hH := hN
                clear hN
                (try simp only [Act.put, List.setIfInBounds_toArray, List.set_cons_zero, List.set_cons_succ])
                refine wpAnyH_take (i := 14) (v := ?vx126) (by exact op_at rfl) (by kernel_rfl) (by kernel_rfl) (by kernel_rfl) (by exact fun _ _ _ h => h) (Or.inl ⟨by rfl, ?hyx126⟩) hH ?restx126
                case hyx126 => (intro w' hSw; (try dsimp only at hSw); go_simp <;> with_reducible rfl)
                (try simp only [Act.put, List.setIfInBounds_toArray, List.set_cons_zero, List.set_cons_succ])
                refine wpAnyH_take (i := 15) (v := ?vx127) (by exact op_at rfl) (by kernel_rfl) (by kernel_rfl) (by kernel_rfl) (by exact fun _ _ _ h => h) (Or.inl ⟨by rfl, ?hyx127⟩) hH ?restx127
                case hyx127 => (intro w' hSw; (try dsimp only at hSw); go_simp <;> with_reducible rfl)
                (try simp only [Act.put, List.setIfInBounds_toArray, List.set_cons_zero, List.set_cons_succ])
                refine wpAnyH_take (i := 16) (v := ?vx128) (by exact op_at rfl) (by kernel_rfl) (by kernel_rfl) (by kernel_rfl) (by exact fun _ _ _ h => h) (Or.inl ⟨by rfl, ?hyx128⟩) hH ?restx128
                case hyx128 => (intro w' hSw; (try dsimp only at hSw); go_simp <;> with_reducible rfl)
                (try simp only [Act.put, List.setIfInBounds_toArray, List.set_cons_zero, List.set_cons_succ])
                refine wpAnyH_take (i := 17) (v := undef) (by exact op_at rfl) (by kernel_rfl) (by kernel_rfl) (by kernel_rfl) (by exact fun _ _ _ h => h) (Or.inr ⟨by rfl, rfl⟩) hH ?restx129
                (try simp only [Act.put, List.setIfInBounds_toArray, List.set_cons_zero, List.set_cons_succ])
                refine wpAnyH_take (i := 18) (v := undef) (by exact op_at rfl) (by kernel_rfl) (by kernel_rfl) (by kernel_rfl) (by exact fun _ _ _ h => h) (Or.inr ⟨by rfl, rfl⟩) hH ?restx130
                (try simp only [Act.put, List.setIfInBounds_toArray, List.set_cons_zero, List.set_cons_succ])
                refine wpAnyH_take (i := 19) (v := undef) (by exact op_at rfl) (by kernel_rfl) (by kernel_rfl) (by kernel_rfl) (by exact fun _ _ _ h => h) (Or.inr ⟨by rfl, rfl⟩) hH ?restx131
                (try simp only [Act.put, List.setIfInBounds_toArray, List.set_cons_zero, List.set_cons_succ])
                refine wpAnyH_take (i := 20) (v := undef) (by exact op_at rfl) (by kernel_rfl) (by kernel_rfl) (by kernel_rfl) (by exact fun _ _ _ h => h) (Or.inr ⟨by rfl, rfl⟩) hH ?restx132
                (try simp only [Act.put, List.setIfInBounds_toArray, List.set_cons_zero, List.set_cons_succ])
                refine wpAnyH_take (i := 21) (v := undef) (by exact op_at rfl) (by kernel_rfl) (by kernel_rfl) (by kernel_rfl) (by exact fun _ _ _ h => h) (Or.inr ⟨by rfl, rfl⟩) hH ?restx133
                (try simp only [Act.put, List.setIfInBounds_toArray, List.set_cons_zero, List.set_cons_succ])
                refine wpAnyH_take (i := 22) (v := undef) (by exact op_at rfl) (by kernel_rfl) (by kernel_rfl) (by kernel_rfl) (by exact fun _ _ _ h => h) (Or.inr ⟨by rfl, rfl⟩) hH ?restx134
                (try simp only [Act.put, List.setIfInBounds_toArray, List.set_cons_zero, List.set_cons_succ])
                refine wpAnyH_take (i := 23) (v := undef) (by exact op_at rfl) (by kernel_rfl) (by kernel_rfl) (by kernel_rfl) (by exact fun _ _ _ h => h) (Or.inr ⟨by rfl, rfl⟩) hH ?restx135
                (try simp only [Act.put, List.setIfInBounds_toArray, List.set_cons_zero, List.set_cons_succ])
                refine wpAnyH_take (i := 24) (v := undef) (by exact op_at rfl) (by kernel_rfl) (by kernel_rfl) (by kernel_rfl) (by exact fun _ _ _ h => h) (Or.inr ⟨by rfl, rfl⟩) hH ?restx136
                (try simp only [Act.put, List.setIfInBounds_toArray, List.set_cons_zero, List.set_cons_succ])
                refine wpAnyH_take (i := 25) (v := undef) (by exact op_at rfl) (by kernel_rfl) (by kernel_rfl) (by kernel_rfl) (by exact fun _ _ _ h => h) (Or.inr ⟨by rfl, rfl⟩) hH ?restx137
                (try simp only [Act.put, List.setIfInBounds_toArray, List.set_cons_zero, List.set_cons_succ])
                refine wpAnyH_take (i := 26) (v := ?vx138) (by exact op_at rfl) (by kernel_rfl) (by kernel_rfl) (by kernel_rfl) (by exact fun _ _ _ h => h) (Or.inl ⟨by rfl, ?hyx138⟩) hH ?restx138
                case hyx138 => (intro w' hSw; (try dsimp only at hSw); go_simp <;> with_reducible rfl)
                (try simp only [Act.put, List.setIfInBounds_toArray, List.set_cons_zero, List.set_cons_succ])
                refine wpAnyH_take (i := 27) (v := ?vx139) (by exact op_at rfl) (by kernel_rfl) (by kernel_rfl) (by kernel_rfl) (by exact fun _ _ _ h => h) (Or.inl ⟨by rfl, ?hyx139⟩) hH ?restx139
                case hyx139 => (intro w' hSw; (try dsimp only at hSw); go_simp <;> with_reducible rfl)
                (try simp only [Act.put, List.setIfInBounds_toArray, List.set_cons_zero, List.set_cons_succ])
                refine wpAnyH_done (by kernel_rfl) ?_ _
                go_wp2_with fail
                go_ret
                exact ⟨by simp, HKR.out.be.plain⟩
            · have S3 := S1.out
              go_wp2_with fail
              clear d0 d1 d2 d3
              refine wp_region_held_drew (S := (fun W => W.cell? ⟨w.heap.size, 0, none⟩ = some (.int .u32 f0) ∧ W.cell? ⟨w.heap.size, 1, none⟩ = some (.int .u32 f1) ∧ W.cell? ⟨w.heap.size, 2, none⟩ = some (.int .u32 f2) ∧ W.cell? ⟨w.heap.size, 3, none⟩ = some (.int .u32 f3) ∧ W.cell? ⟨g, 0, none⟩ = some (.int .u32 x0) ∧ W.cell? ⟨g, 1, none⟩ = some (.int .u32 x1) ∧ W.cell? ⟨g, 2, none⟩ = some (.int .u32 x2) ∧ W.cell? ⟨g, 3, none⟩ = some (.int .u32 x3) ∧ W.cell? ⟨g, 4, none⟩ = some (.int .u32 y0) ∧ W.cell? ⟨g, 5, none⟩ = some (.int .u32 y1) ∧ W.cell? ⟨g, 6, none⟩ = some (.int .u32 y2) ∧ W.cell? ⟨g, 7, none⟩ = some (.int .u32 y3) ∧ W.cell? ⟨w4.heap.size + 1, 0, none⟩ = some (.int .u32 v0) ∧ W.cell? ⟨w4.heap.size + 1, 1, none⟩ = some (.int .u32 v1) ∧ W.cell? ⟨w4.heap.size + 1, 2, none⟩ = some (.int .u32 v2) ∧ W.cell? ⟨w4.heap.size + 1, 3, none⟩ = some (.int .u32 v3) ∧ W.cell? ⟨w4.heap.size + 1, 4, none⟩ = some (.int .u32 z0) ∧ W.cell? ⟨w4.heap.size + 1, 5, none⟩ = some (.int .u32 z1) ∧ W.cell? ⟨w4.heap.size + 1, 6, none⟩ = some (.int .u32 z2) ∧ W.cell? ⟨w4.heap.size + 1, 7, none⟩ = some (.int .u32 z3))) (by kernel_rfl) ?hsx140 (fun hH => ?restx140)
              case hsx140 => (try dsimp only); with_reducible exact allF HKR.out
              refine wpAnyH_take (i := 0) (v := ?vx141) (by exact op_at rfl) (by kernel_rfl) (by kernel_rfl) (by kernel_rfl) (by exact fun _ _ _ h => h) (Or.inl ⟨by rfl, ?hyx141⟩) hH ?restx141
              case hyx141 => (intro w' hSw; (try dsimp only at hSw); go_simp <;> with_reducible rfl)
              (try simp only [Act.put, List.setIfInBounds_toArray, List.set_cons_zero, List.set_cons_succ])
              refine wpAnyH_take (i := 1) (v := ?vx142) (by exact op_at rfl) (by kernel_rfl) (by kernel_rfl) (by kernel_rfl) (by exact fun _ _ _ h => h) (Or.inl ⟨by rfl, ?hyx142⟩) hH ?restx142
              case hyx142 => (intro w' hSw; (try dsimp only at hSw); go_simp <;> with_reducible rfl)
              (try simp only [Act.put, List.setIfInBounds_toArray, List.set_cons_zero, List.set_cons_succ])
              refine wpAnyH_take (i := 2) (v := ?vx143) (by exact op_at rfl) (by kernel_rfl) (by kernel_rfl) (by kernel_rfl) (by exact fun _ _ _ h => h) (Or.inl ⟨by rfl, ?hyx143⟩) hH ?restx143
              case hyx143 => (intro w' hSw; (try dsimp only at hSw); go_simp <;> with_reducible rfl)
              (try simp only [Act.put, List.setIfInBounds_toArray, List.set_cons_zero, List.set_cons_succ])
              refine wpAnyH_take (i := 3) (v := ?vx144) (by exact op_at rfl) (by kernel_rfl) (by kernel_rfl) (by kernel_rfl) (by exact fun _ _ _ h => h) (Or.inl ⟨by rfl, ?hyx144⟩) hH ?restx144
              case hyx144 => (intro w' hSw; (try dsimp only at hSw); go_simp <;> with_reducible rfl)
              (try simp only [Act.put, List.setIfInBounds_toArray, List.set_cons_zero, List.set_cons_succ])
              refine wpAnyH_take (i := 4) (v := undef) (by exact op_at rfl) (by kernel_rfl) (by kernel_rfl) (by kernel_rfl) (by exact fun _ _ _ h => h) (Or.inr ⟨by rfl, rfl⟩) hH ?restx145
              (try simp only [Act.put, List.setIfInBounds_toArray, List.set_cons_zero, List.set_cons_succ])
              refine wpAnyH_take (i := 5) (v := undef) (by exact op_at rfl) (by kernel_rfl) (by kernel_rfl) (by kernel_rfl) (by exact fun _ _ _ h => h) (Or.inr ⟨by rfl, rfl⟩) hH ?restx146
              (try simp only [Act.put, List.setIfInBounds_toArray, List.set_cons_zero, List.set_cons_succ])
              refine wpAnyH_take (i := 6) (v := undef) (by exact op_at rfl) (by kernel_rfl) (by kernel_rfl) (by kernel_rfl) (by exact fun _ _ _ h => h) (Or.inr ⟨by rfl, rfl⟩) hH ?restx147
              (try simp only [Act.put, List.setIfInBounds_toArray, List.set_cons_zero, List.set_cons_succ])
              refine wpAnyH_take (i := 7) (v := undef) (by exact op_at rfl) (by kernel_rfl) (by kernel_rfl) (by kernel_rfl) (by exact fun _ _ _ h => h) (Or.inr ⟨by rfl, rfl⟩) hH ?restx148
              (try simp only [Act.put, List.setIfInBounds_toArray, List.set_cons_zero, List.set_cons_succ])
              refine wpAnyH_take (i := 9) (v := undef) (by exact op_at rfl) (by kernel_rfl) (by kernel_rfl) (by kernel_rfl) (by exact fun _ _ _ h => h) (Or.inr ⟨by rfl, rfl⟩) hH ?restx149
              (try simp only [Act.put, List.setIfInBounds_toArray, List.set_cons_zero, List.set_cons_succ])
              refine wpAnyH_take (i := 10) (v := undef) (by exact op_at rfl) (by kernel_rfl) (by kernel_rfl) (by kernel_rfl) (by exact fun _ _ _ h => h) (Or.inr ⟨by rfl, rfl⟩) hH ?restx150
              (try simp only [Act.put, List.setIfInBounds_toArray, List.set_cons_zero, List.set_cons_succ])
              refine wpAnyH_take (i := 11) (v := undef) (by exact op_at rfl) (by kernel_rfl) (by kernel_rfl) (by kernel_rfl) (by exact fun _ _ _ h => h) (Or.inr ⟨by rfl, rfl⟩) hH ?restx151
              (try simp only [Act.put, List.setIfInBounds_toArray, List.set_cons_zero, List.set_cons_succ])
              refine wpAnyH_take (i := 12) (v := undef) (by exact op_at rfl) (by kernel_rfl) (by kernel_rfl) (by kernel_rfl) (by exact fun _ _ _ h => h) (Or.inr ⟨by rfl, rfl⟩) hH ?restx152
              (try simp only [Act.put, List.setIfInBounds_toArray, List.set_cons_zero, List.set_cons_succ])
              refine wpAnyH_take (i := 8) (v := undef) (by exact op_at rfl) (by kernel_rfl) (by kernel_rfl) (by kernel_rfl) (by exact fun _ _ _ h => h) (Or.inr ⟨by rfl, rfl⟩) hH ?restx153
              (try simp only [Act.put, List.setIfInBounds_toArray, List.set_cons_zero, List.set_cons_succ])
              refine wpAnyH_take (i := 13) (v := undef) (by exact op_at rfl) (by kernel_rfl) (by kernel_rfl) (by kernel_rfl) (by exact fun _ _ _ h => h) (Or.inr ⟨by rfl, rfl⟩) hH ?restx154
              (try simp only [Act.put, List.setIfInBounds_toArray, List.set_cons_zero, List.set_cons_succ])
              refine wpAnyH_take (i := 14) (v := undef) (by exact op_at rfl) (by kernel_rfl) (by kernel_rfl) (by kernel_rfl) (by exact fun _ _ _ h => h) (Or.inr ⟨by rfl, rfl⟩) hH ?restx155
              (try simp only [Act.put, List.setIfInBounds_toArray, List.set_cons_zero, List.set_cons_succ])
              refine wpAnyH_take (i := 15) (v := ?vx156) (by exact op_at rfl) (by kernel_rfl) (by kernel_rfl) (by kernel_rfl) (by exact fun _ _ _ h => h) (Or.inl ⟨by rfl, ?hyx156⟩) hH ?restx156
              case hyx156 => (intro w' hSw; (try dsimp only at hSw); go_simp <;> with_reducible rfl)
              (try simp only [Act.put, List.setIfInBounds_toArray, List.set_cons_zero, List.set_cons_succ])
              refine wpAnyH_take (i := 16) (v := ?vx157) (by exact op_at rfl) (by kernel_rfl) (by kernel_rfl) (by kernel_rfl) (by exact fun _ _ _ h => h) (Or.inl ⟨by rfl, ?hyx157⟩) hH ?restx157
              case hyx157 => (intro w' hSw; (try dsimp only at hSw); go_simp <;> with_reducible rfl)
              (try simp only [Act.put, List.setIfInBounds_toArray, List.set_cons_zero, List.set_cons_succ])
              refine wpAnyH_take (i := 17) (v := ?vx158) (by exact op_at rfl) (by kernel_rfl) (by kernel_rfl) (by kernel_rfl) (by exact fun _ _ _ h => h) (Or.inl ⟨by rfl, ?hyx158⟩) hH ?restx158
              case hyx158 => (intro w' hSw; (try dsimp only at hSw); go_simp <;> with_reducible rfl)
              (try simp only [Act.put, List.setIfInBounds_toArray, List.set_cons_zero, List.set_cons_succ])
              refine wpAnyH_take (i := 18) (v := ?vx159) (by exact op_at rfl) (by kernel_rfl) (by kernel_rfl) (by kernel_rfl) (by exact fun _ _ _ h => h) (Or.inl ⟨by rfl, ?hyx159⟩) hH ?restx159
              case hyx159 => (intro w' hSw; (try dsimp only at hSw); go_simp <;> with_reducible rfl)
              (try simp only [Act.put, List.setIfInBounds_toArray, List.set_cons_zero, List.set_cons_succ])
              refine wpAnyH_take (i := 19) (v := ?vx160) (by exact op_at rfl) (by kernel_rfl) (by kernel_rfl) (by kernel_rfl) (by exact fun _ _ _ h => h) (Or.inl ⟨by rfl, ?hyx160⟩) hH ?restx160
              case hyx160 => (intro w' hSw; (try dsimp only at hSw); go_simp <;> with_reducible rfl)
              (try simp only [Act.put, List.setIfInBounds_toArray, List.set_cons_zero, List.set_cons_succ])
              refine wpAnyH_take (i := 20) (v := ?vx161) (by exact op_at rfl) (by kernel_rfl) (by kernel_rfl) (by kernel_rfl) (by exact fun _ _ _ h => h) (Or.inl ⟨by rfl, ?hyx161⟩) hH ?restx161
              case hyx161 => (intro w' hSw; (try dsimp only at hSw); go_simp <;> with_reducible rfl)
              (try simp only [Act.put, List.setIfInBounds_toArray, List.set_cons_zero, List.set_cons_succ])
              refine wpAnyH_take (i := 21) (v := ?vx162) (by exact op_at rfl) (by kernel_rfl) (by kernel_rfl) (by kernel_rfl) (by exact fun _ _ _ h => h) (Or.inl ⟨by rfl, ?hyx162⟩) hH ?restx162
              case hyx162 => (intro w' hSw; (try dsimp only at hSw); go_simp <;> with_reducible rfl)
              (try simp only [Act.put, List.setIfInBounds_toArray, List.set_cons_zero, List.set_cons_succ])
              refine wpAnyH_take (i := 22) (v := ?vx163) (by exact op_at rfl) (by kernel_rfl) (by kernel_rfl) (by kernel_rfl) (by exact fun _ _ _ h => h) (Or.inl ⟨by rfl, ?hyx163⟩) hH ?restx163
              case hyx163 => (intro w' hSw; (try dsimp only at hSw); go_simp <;> with_reducible rfl)
              (try simp only [Act.put, List.setIfInBounds_toArray, List.set_cons_zero, List.set_cons_succ])
              refine wpAnyH_take (i := 23) (v := ?vx164) (by exact op_at rfl) (by kernel_rfl) (by kernel_rfl) (by kernel_rfl) (by exact fun _ _ _ h => h) (Or.inl ⟨by rfl, ?hyx164⟩) hH ?restx164
              case hyx164 => (intro w' hSw; (try dsimp only at hSw); go_simp <;> with_reducible rfl)
              (try simp only [Act.put, List.setIfInBounds_toArray, List.set_cons_zero, List.set_cons_succ])
              refine wpAnyH_take (i := 24) (v := ?vx165) (by exact op_at rfl) (by kernel_rfl) (by kernel_rfl) (by kernel_rfl) (by exact fun _ _ _ h => h) (Or.inl ⟨by rfl, ?hyx165⟩) hH ?restx165
              case hyx165 => (intro w' hSw; (try dsimp only at hSw); go_simp <;> with_reducible rfl)
              (try simp only [Act.put, List.setIfInBounds_toArray, List.set_cons_zero, List.set_cons_succ])
              refine wpAnyH_ready (rs := [25]) (by kernel_rfl) (by simp) ?_
              refine AllReadyH.cons (op_at rfl) (fun K hK => ?_) AllReadyH.nil
              go_simp
              go_at_call 13
              (with_reducible refine (C6.out _ (HR2.out.oldn HKR.out) (Dd.row (HD2.out.dropLast.oldn HKR.out)) (HT.out.oldn HKR.out)).mono ?_)
              rintro e w' ⟨rfl, hb⟩
              replace HKR := Lib.hid (HKR.out.after hb)
              clear hb
              go_simp
              refine hK.out _ _ ?hsx166 (fun hN => ?restx166)
              case hsx166 => (try dsimp only); with_reducible exact allF HKR.out
              clear hK K hH
              have hH := hN
              clear hN
              (try simp only [Act.put, List.setIfInBounds_toArray, List.set_cons_zero, List.set_cons_succ])
              refine wpAnyH_take (i := 26) (v := ?vx167) (by exact op_at rfl) (by kernel_rfl) (by kernel_rfl) (by kernel_rfl) (by exact fun _ _ _ h => h) (Or.inl ⟨by rfl, ?hyx167⟩) hH ?restx167
              case hyx167 => (intro w' hSw; (try dsimp only at hSw); go_simp <;> with_reducible rfl)
              (try simp only [Act.put, List.setIfInBounds_toArray, List.set_cons_zero, List.set_cons_succ])
              refine wpAnyH_take (i := 27) (v := ?vx168) (by exact op_at rfl) (by kernel_rfl) (by kernel_rfl) (by kernel_rfl) (by exact fun _ _ _ h => h) (Or.inl ⟨by rfl, ?hyx168⟩) hH ?restx168
              case hyx168 => (intro w' hSw; (try dsimp only at hSw); go_simp <;> with_reducible rfl)
              (try simp only [Act.put, List.setIfInBounds_toArray, List.set_cons_zero, List.set_cons_succ])
              refine wpAnyH_done (by kernel_rfl) ?_ _
              go_wp2_with fail
              go_ret
              exact ⟨by simp, HKR.out.be.plain⟩

end Go.Proofs.YtcjclbhkheogpaaDoor
