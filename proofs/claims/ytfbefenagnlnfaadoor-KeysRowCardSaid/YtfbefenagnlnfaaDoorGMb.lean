/- merkle's prove and the reference's way: the contracts. The reference's Root and way: the contracts. merkle's proveOn and the reference's goes: the contracts. (*rest).takeLast and (*rest).root: the contracts. The reference's up: the contract. The reference's on: the contract. (*rest).roots: the contract. -/
import Derived.Test.YtfbefenagnlnfaaDoorGMa
import Derived.Test.YtfbefenagnlnfaaDoorOwnE
import Derived.Deep.AppendLies
import Derived.Deep.RegionLaw
import Derived.Test.YtfbefenagnlnfaaDoorDigQ
import Derived.Deep.RegionHeld3
set_option linter.unusedVariables false
namespace Go.Proofs.YtfbefenagnlnfaaDoor
open Go.RowKit

def WayAt (f : FuncId) (n : Nat) : Prop := ∀ (l : Dl) (i b off cap : Nat) (w : World), l.length = n → i < n → n ≤ 1024 → n ≤ cap → cap ≤ 9223372036854775807 → DRow w b off l → Tabs w →
    Calls Tryd.prog f #[.slice (some ⟨b, off, none⟩) n cap, .int .i64 (i : Int)] w (OwnE w (mway l i))
set_option maxRecDepth 100000 in
set_option maxHeartbeats 4000000 in
theorem prove_code : ∀ n, WayAt 53 n := by
  intro n
  induction n using Nat.strongRecOn with
  | ind n ih =>
    intro l i b off cap w hl hi hn hc hm hr ht
    by_cases h2 : n = 1
    · subst h2
      rw [way_small (by omega)]
      clear ih hr ht hl
      go_enter Tryd.func53, Tryd.ntmps53
      go_wp2_with fail
      go_ret
      exact ⟨_, rfl, World.ownsRow_nil _ _ _ _, Below.refl _ _⟩
    · have h2 : 2 ≤ n := by omega
      have k1 := hf_lt h2
      have k2 := hf_pos n
      have C := fun w => half_code n w h2 hn
      have hsz := way_short 10 l i (by omega)
      have wl := way_left (l := l) (i := i) (by omega)
      have wr := way_right (l := l) (i := i) (by omega)
      rw [hl] at wl wr
      have o1 : Ok4 (mroot (l.take (hf n))) := (hr.ok.take _).mroot
      have o2 : Ok4 (mroot (l.drop (hf n))) := (hr.ok.drop _).mroot
      have c1 := fun w => ih (hf n) k1 (l.take (hf n)) i b off cap w (by rw [List.length_take]; omega)
      have c2 := fun w => ih (n - hf n) (by omega) (l.drop (hf n)) (i - hf n) b (off + hf n * 4) (cap - hf n) w (by rw [List.length_drop, hl])
      have c3 := fun w => root_code (hf n) (l.take (hf n)) b off cap w (by rw [List.length_take]; omega) k2 (by omega) (by omega) hm
      have c4 := fun w => root_code (n - hf n) (l.drop (hf n)) b (off + hf n * 4) (cap - hf n) w (by rw [List.length_drop, hl]) (by omega) (by omega) (by omega) (by omega)
      have r1 := hr.take (hf n)
      have r2 := hr.drop (hf n)
      obtain ⟨x0, x1, x2, x3, e1, _⟩ := ok4 o1
      obtain ⟨y0, y1, y2, y3, e2, _⟩ := ok4 o2
      rw [e1] at wr
      rw [e2] at wl
      rw [e1, ag4] at c3
      rw [e2, ag4] at c4
      obtain ⟨k, hk⟩ : ∃ k, hf n = k := ⟨_, rfl⟩
      rw [hk] at C c1 c2 c3 c4 k1 k2 r1 r2 wl wr
      have i0 : ¬ cap = k := by omega
      have i1 : k ≤ cap := by omega
      have i2 : k ≤ n := by omega
      have i3 : (n == 1) = false := by rw [beq_eq_false_iff_ne]; omega
      have i4 : ((n : Int) == 1) = false := by rw [beq_eq_false_iff_ne]; omega
      have HC := Lib.hid C
      have HR1 := Lib.hid r1
      have HR2 := Lib.hid r2
      have HT := Lib.hid ht
      have HK := Lib.hid (Kx.nil none w).drew
      obtain ⟨z0, hz, hz0, hz1, hz2⟩ := info_parts infoDg
      by_cases hik : i < k
      · have wl := wl hik
        rw [wl] at hsz ⊢
        obtain ⟨P, hP⟩ : ∃ P, mway (l.take k) i = P := ⟨_, rfl⟩
        have c1 := fun w => c1 w hik (by omega) (by omega) hm
        rw [hP] at c1 hsz ⊢
        have hq : P.length ≤ 10 := by rw [List.length_append] at hsz; omega
        have C1 := Lib.hid c1
        have C4 := Lib.hid c4
        clear c1 c2 c3 c4 C r1 r2 ht e1 e2 hk hr hl ih hsz wl wr o1 o2 hP
        go_enter Tryd.func53, Tryd.ntmps53
        go_wp2_with fail
        refine (HC.out _).mono ?_
        rintro e w1 ⟨rfl, rfl⟩
        go_wp2_with fail
        go_region_law (first
          | (go_simp; go_at_call 53; (with_reducible refine (C1.out _ (HR1.out.oldn HK.out) (HT.out.oldn HK.out)).mono ?_); rintro e w' ⟨v, rfl, ho, hb⟩; have HO := Lib.hid (own_base ho HK.out.be.size); replace HK := Lib.hid (HK.out.after hb); clear hb ho)
          | (go_simp; go_at_call 28; (with_reducible refine (C4.out _ (HR2.out.oldn HK.out) (HT.out.oldn HK.out)).mono ?_); rintro e w' ⟨rfl, hb⟩; replace HK := Lib.hid (HK.out.after hb); replace HO := Lib.hid (own_keep HO.out hb); clear hb)
          | (refine step_append_lies _ (by rfl) _ _ _ (by rfl) w1.heap.size 24 z0 _ 4 16 Tryd.underlying35 hz hz0 hz1 hz2 rfl (by omega) _ P.length (mcs P) (by rfl) (HO.out.alloc _)
              ⟨_, 0, none⟩ 1 1 [.int .u32 y0, .int .u32 y1, .int .u32 y2, .int .u32 y3] (by rfl) (by rfl)
              (World.news_of_block (cs := #[.int .u32 y0, .int .u32 y1, .int .u32 y2, .int .u32 y3]) (t := 24) (fr := (0, 0)) (heap_alloc_new _ _)) (by simp [Value.oneCell'])
              (by omega) (by unfold maxLen; omega) (by omega) (by have := HK.out.be.size; simp; omega) _ rfl ?_; intro gg cap2 w2 hown hgrow hat hlt1))
        all_goals
          have HO2 := Lib.hid hown
          have HB2 := Lib.hid ((HK.out.be.plain.alloc HK.out.be.size (.cells #[.int .u32 y0, .int .u32 y1, .int .u32 y2, .int .u32 y3] 24)).grown hgrow (by have := HK.out.be.size; simp; omega) (fun k hk => (HO.out.lt k hk).1))
          clear hown hgrow hat
          go_wp2_with fail
          go_ret
          refine ⟨_, rfl, ?_, HB2.out⟩
          rw [List.length_append, mcs_snoc]
          exact HO2.out
      · have wr := wr hik
        rw [wr] at hsz ⊢
        obtain ⟨P, hP⟩ : ∃ P, mway (l.drop k) (i - k) = P := ⟨_, rfl⟩
        have c2 := fun w => c2 w (by omega) (by omega) (by omega) (by omega)
        rw [hP, show ((i - k : Nat) : Int) = (i : Int) - (k : Int) by omega] at c2
        rw [hP] at hsz ⊢
        have hq : P.length ≤ 10 := by rw [List.length_append] at hsz; omega
        have j0 : 0 ≤ (i : Int) - (k : Int) := by omega
        have j1 : (i : Int) - (k : Int) < 1024 := by omega
        have j2 : IntKind.i64.wrap ((i : Int) - (k : Int)) = (i : Int) - (k : Int) := by rw [IntKind.wrap_i64]; omega
        have C2 := Lib.hid c2
        have C3 := Lib.hid c3
        clear c1 c2 c3 c4 C r1 r2 ht e1 e2 hk hr hl ih hsz wl wr o1 o2 hP
        go_enter Tryd.func53, Tryd.ntmps53
        go_wp2_with fail
        refine (HC.out _).mono ?_
        rintro e w1 ⟨rfl, rfl⟩
        go_wp2_with fail
        go_region_law (first
          | (go_simp; go_at_call 53; (with_reducible refine (C2.out _ (HR2.out.oldn HK.out) (HT.out.oldn HK.out)).mono ?_); rintro e w' ⟨v, rfl, ho, hb⟩; have HO := Lib.hid (own_base ho HK.out.be.size); replace HK := Lib.hid (HK.out.after hb); clear hb ho)
          | (go_simp; go_at_call 28; (with_reducible refine (C3.out _ (HR1.out.oldn HK.out) (HT.out.oldn HK.out)).mono ?_); rintro e w' ⟨rfl, hb⟩; replace HK := Lib.hid (HK.out.after hb); replace HO := Lib.hid (own_keep HO.out hb); clear hb)
          | (refine step_append_lies _ (by rfl) _ _ _ (by rfl) w1.heap.size 24 z0 _ 4 16 Tryd.underlying35 hz hz0 hz1 hz2 rfl (by omega) _ P.length (mcs P) (by rfl) (HO.out.alloc _)
              ⟨_, 0, none⟩ 1 1 [.int .u32 x0, .int .u32 x1, .int .u32 x2, .int .u32 x3] (by rfl) (by rfl)
              (World.news_of_block (cs := #[.int .u32 x0, .int .u32 x1, .int .u32 x2, .int .u32 x3]) (t := 24) (fr := (0, 0)) (heap_alloc_new _ _)) (by simp [Value.oneCell'])
              (by omega) (by unfold maxLen; omega) (by omega) (by have := HK.out.be.size; simp; omega) _ rfl ?_; intro gg cap2 w2 hown hgrow hat hlt1))
        all_goals
          have HO2 := Lib.hid hown
          have HB2 := Lib.hid ((HK.out.be.plain.alloc HK.out.be.size (.cells #[.int .u32 x0, .int .u32 x1, .int .u32 x2, .int .u32 x3] 24)).grown hgrow (by have := HK.out.be.size; simp; omega) (fun k hk => (HO.out.lt k hk).1))
          clear hown hgrow hat
          go_wp2_with fail
          go_ret
          refine ⟨_, rfl, ?_, HB2.out⟩
          rw [List.length_append, mcs_snoc]
          exact HO2.out
end Go.Proofs.YtfbefenagnlnfaaDoor
set_option linter.unusedVariables false
namespace Go.Proofs.YtfbefenagnlnfaaDoor
open Go.RowKit

set_option maxRecDepth 100000 in
set_option maxHeartbeats 2000000 in
theorem root_ref : ∀ n, RootAt 30 n := by
  intro n
  induction n using Nat.strongRecOn with
  | ind n ih =>
    intro l b off cap w hl h1 hn hc hm hr ht
    have hbw := hr.lt
    have hne : w.heap.size ≠ b := by omega
    by_cases h2 : n = 1
    · subst h2
      obtain ⟨v0, v1, v2, v3, hj, _⟩ := hr.get (j := 0) (by omega)
      have hroot : mroot l = [v0, v1, v2, v3] := by
        rw [root_small (by omega)]
        match l, hl, hj with
        | [x], _, hj => simpa using hj
      rw [hroot, ag4]
      obtain ⟨c0, c1, c2, c3⟩ := hr.zero hj
      clear hroot hj hr hl ih ht
      go_enter Tryd.func30, Tryd.ntmps30
      go_wp2_with fail
      exact bodyPost_ret (v := .agg #[.int .u32 v0, .int .u32 v1, .int .u32 v2, .int .u32 v3]) (by simp [results, go_sem]) rfl ⟨rfl, (Below.refl _ _).alloc (Nat.le_refl _) _⟩
    · have h2 : 2 ≤ n := by omega
      have k1 := hf_lt h2
      have k2 := hf_pos n
      have o1 : Ok4 (mroot (l.take (hf n))) := (hr.ok.take _).mroot
      have o2 : Ok4 (mroot (l.drop (hf n))) := (hr.ok.drop _).mroot
      have o3 : Ok4 (mroot l) := hr.ok.mroot
      have hp := root_two (l := l) (by omega)
      rw [hl] at hp
      rw [hp] at o3 ⊢
      clear hp
      have c5 := fun w => pair_ref (mroot (l.take (hf n))) (mroot (l.drop (hf n))) w o1 o2
      have C := fun w => half_ref n w h2 (by omega)
      have c1 := fun w => ih (hf n) k1 (l.take (hf n)) b off cap w (by rw [List.length_take]; omega) k2 (by omega) (by omega) hm
      have c2 := fun w => ih (n - hf n) (by omega) (l.drop (hf n)) b (off + hf n * 4) (cap - hf n) w (by rw [List.length_drop, hl]) (by omega) (by omega) (by omega) (by omega)
      have r1 := hr.take (hf n)
      have r2 := hr.drop (hf n)
      obtain ⟨x0, x1, x2, x3, e1, _⟩ := ok4 o1
      obtain ⟨y0, y1, y2, y3, e2, _⟩ := ok4 o2
      rw [e1, e2] at c5 o3 ⊢
      obtain ⟨z0, z1, z2, z3, e3, _⟩ := ok4 o3
      rw [e3] at c5 ⊢
      rw [ag4, ag4, ag4] at c5
      rw [e1, ag4] at c1
      rw [e2, ag4] at c2
      rw [ag4]
      obtain ⟨k, hk⟩ : ∃ k, hf n = k := ⟨_, rfl⟩
      rw [hk] at C c1 c2 k1 k2 r1 r2
      have i0 : (n == 1) = false := by rw [beq_eq_false_iff_ne]; omega
      have i1 : (n == 0) = false := by rw [beq_eq_false_iff_ne]; omega
      have i2 : ((n : Int) == 1) = false := by rw [beq_eq_false_iff_ne]; omega
      have i3 : ((n : Int) == 0) = false := by rw [beq_eq_false_iff_ne]; omega
      have i4 : ¬ cap = k := by omega
      have i5 : k ≤ cap := by omega
      have i6 : k ≤ n := by omega
      have HC := Lib.hid C
      have C1 := Lib.hid c1
      have C2 := Lib.hid c2
      have C5 := Lib.hid c5
      have HR1 := Lib.hid r1
      have HR2 := Lib.hid r2
      have HT := Lib.hid ht
      have HK := Lib.hid ((Kx.nil none w).more (.cells #[.int .u32 0, .int .u32 0, .int .u32 0, .int .u32 0] 24 (0, 0))).drew
      clear C c1 c2 c5 hr ht e1 e2 e3 o1 o2 o3 hl ih r1 r2 hk
      go_enter Tryd.func30, Tryd.ntmps30
      go_wp2_with fail
      refine (HC.out _).mono ?_
      rintro e w1 ⟨rfl, rfl⟩
      go_wp2_with fail
      go_region_law (first
        | (go_simp; go_at_call 30; (with_reducible refine (C1.out _ (HR1.out.oldn HK.out) (HT.out.oldn HK.out)).mono ?_); rintro e w' ⟨rfl, hb⟩; replace HK := Lib.hid (HK.out.after hb); clear hb)
        | (go_simp; go_at_call 30; (with_reducible refine (C2.out _ (HR2.out.oldn HK.out) (HT.out.oldn HK.out)).mono ?_); rintro e w' ⟨rfl, hb⟩; replace HK := Lib.hid (HK.out.after hb); clear hb)
        | (go_simp; go_at_call 42; (with_reducible refine (C5.out _).mono ?_); rintro e w' ⟨rfl, hb⟩; replace HK := Lib.hid (HK.out.after hb); clear hb; obtain ⟨a0, a1, a2, a3, d0, d1, d2, d3⟩ := cells4 (HK.out.at 0 rfl)))
      all_goals
        have HR := Lib.hid (row4 (HK.out.at 0 rfl) (.int .u32 z0) (.int .u32 z1) (.int .u32 z2) (.int .u32 z3))
        have HE := Lib.hid (HK.out.put4 0 rfl (.inr (Nat.le_refl _)) (.int .u32 z0) (.int .u32 z1) (.int .u32 z2) (.int .u32 z3)).be.plain
        go_wp2_with fail
        exact bodyPost_ret (v := .agg #[.int .u32 z0, .int .u32 z1, .int .u32 z2, .int .u32 z3]) (by
          obtain ⟨k0, k1, k2, k3, _⟩ := cells4 HR.out
          simp [results, go_sem, k0, k1, k2, k3]) rfl ⟨rfl, HE.out⟩
set_option maxRecDepth 100000 in
set_option maxHeartbeats 4000000 in
theorem way_ref : ∀ n, WayAt 57 n := by
  intro n
  induction n using Nat.strongRecOn with
  | ind n ih =>
    intro l i b off cap w hl hi hn hc hm hr ht
    by_cases h2 : n = 1
    · subst h2
      rw [way_small (by omega)]
      clear ih hr ht hl
      go_enter Tryd.func57, Tryd.ntmps57
      go_wp2_with fail
      go_ret
      exact ⟨_, rfl, World.ownsRow_nil _ _ _ _, Below.refl _ _⟩
    · have h2 : 2 ≤ n := by omega
      have k1 := hf_lt h2
      have k2 := hf_pos n
      have C := fun w => half_ref n w h2 (by omega)
      have hsz := way_short 10 l i (by omega)
      have wl := way_left (l := l) (i := i) (by omega)
      have wr := way_right (l := l) (i := i) (by omega)
      rw [hl] at wl wr
      have o1 : Ok4 (mroot (l.take (hf n))) := (hr.ok.take _).mroot
      have o2 : Ok4 (mroot (l.drop (hf n))) := (hr.ok.drop _).mroot
      have c1 := fun w => ih (hf n) k1 (l.take (hf n)) i b off cap w (by rw [List.length_take]; omega)
      have c2 := fun w => ih (n - hf n) (by omega) (l.drop (hf n)) (i - hf n) b (off + hf n * 4) (cap - hf n) w (by rw [List.length_drop, hl])
      have c3 := fun w => root_ref (hf n) (l.take (hf n)) b off cap w (by rw [List.length_take]; omega) k2 (by omega) (by omega) hm
      have c4 := fun w => root_ref (n - hf n) (l.drop (hf n)) b (off + hf n * 4) (cap - hf n) w (by rw [List.length_drop, hl]) (by omega) (by omega) (by omega) (by omega)
      have r1 := hr.take (hf n)
      have r2 := hr.drop (hf n)
      obtain ⟨x0, x1, x2, x3, e1, _⟩ := ok4 o1
      obtain ⟨y0, y1, y2, y3, e2, _⟩ := ok4 o2
      rw [e1] at wr
      rw [e2] at wl
      rw [e1, ag4] at c3
      rw [e2, ag4] at c4
      obtain ⟨k, hk⟩ : ∃ k, hf n = k := ⟨_, rfl⟩
      rw [hk] at C c1 c2 c3 c4 k1 k2 r1 r2 wl wr
      have i0 : ¬ cap = k := by omega
      have i1 : k ≤ cap := by omega
      have i2 : k ≤ n := by omega
      have i3 : (n == 1) = false := by rw [beq_eq_false_iff_ne]; omega
      have i4 : ((n : Int) == 1) = false := by rw [beq_eq_false_iff_ne]; omega
      have HC := Lib.hid C
      have HR1 := Lib.hid r1
      have HR2 := Lib.hid r2
      have HT := Lib.hid ht
      have HK := Lib.hid (Kx.nil none w).drew
      obtain ⟨z0, hz, hz0, hz1, hz2⟩ := info_parts infoDg
      by_cases hik : i < k
      · have wl := wl hik
        rw [wl] at hsz ⊢
        obtain ⟨P, hP⟩ : ∃ P, mway (l.take k) i = P := ⟨_, rfl⟩
        have c1 := fun w => c1 w hik (by omega) (by omega) hm
        rw [hP] at c1 hsz ⊢
        have hq : P.length ≤ 10 := by rw [List.length_append] at hsz; omega
        have C1 := Lib.hid c1
        have C4 := Lib.hid c4
        clear c1 c2 c3 c4 C r1 r2 ht e1 e2 hk hr hl ih hsz wl wr o1 o2 hP
        go_enter Tryd.func57, Tryd.ntmps57
        go_wp2_with fail
        refine (HC.out _).mono ?_
        rintro e w1 ⟨rfl, rfl⟩
        go_wp2_with fail
        go_region_law (first
          | (go_simp; go_at_call 57; (with_reducible refine (C1.out _ (HR1.out.oldn HK.out) (HT.out.oldn HK.out)).mono ?_); rintro e w' ⟨v, rfl, ho, hb⟩; have HO := Lib.hid (own_base ho HK.out.be.size); replace HK := Lib.hid (HK.out.after hb); clear hb ho)
          | (go_simp; go_at_call 30; (with_reducible refine (C4.out _ (HR2.out.oldn HK.out) (HT.out.oldn HK.out)).mono ?_); rintro e w' ⟨rfl, hb⟩; replace HK := Lib.hid (HK.out.after hb); replace HO := Lib.hid (own_keep HO.out hb); clear hb)
          | (refine step_append_lies _ (by rfl) _ _ _ (by rfl) w1.heap.size 24 z0 _ 4 16 Tryd.underlying35 hz hz0 hz1 hz2 rfl (by omega) _ P.length (mcs P) (by rfl) (HO.out.alloc _)
              ⟨_, 0, none⟩ 1 1 [.int .u32 y0, .int .u32 y1, .int .u32 y2, .int .u32 y3] (by rfl) (by rfl)
              (World.news_of_block (cs := #[.int .u32 y0, .int .u32 y1, .int .u32 y2, .int .u32 y3]) (t := 24) (fr := (0, 0)) (heap_alloc_new _ _)) (by simp [Value.oneCell'])
              (by omega) (by unfold maxLen; omega) (by omega) (by have := HK.out.be.size; simp; omega) _ rfl ?_; intro gg cap2 w2 hown hgrow hat hlt1))
        all_goals
          have HO2 := Lib.hid hown
          have HB2 := Lib.hid ((HK.out.be.plain.alloc HK.out.be.size (.cells #[.int .u32 y0, .int .u32 y1, .int .u32 y2, .int .u32 y3] 24)).grown hgrow (by have := HK.out.be.size; simp; omega) (fun k hk => (HO.out.lt k hk).1))
          clear hown hgrow hat
          go_wp2_with fail
          go_ret
          refine ⟨_, rfl, ?_, HB2.out⟩
          rw [List.length_append, mcs_snoc]
          exact HO2.out
      · have wr := wr hik
        rw [wr] at hsz ⊢
        obtain ⟨P, hP⟩ : ∃ P, mway (l.drop k) (i - k) = P := ⟨_, rfl⟩
        have c2 := fun w => c2 w (by omega) (by omega) (by omega) (by omega)
        rw [hP, show ((i - k : Nat) : Int) = (i : Int) - (k : Int) by omega] at c2
        rw [hP] at hsz ⊢
        have hq : P.length ≤ 10 := by rw [List.length_append] at hsz; omega
        have j0 : 0 ≤ (i : Int) - (k : Int) := by omega
        have j1 : (i : Int) - (k : Int) < 1024 := by omega
        have j2 : IntKind.i64.wrap ((i : Int) - (k : Int)) = (i : Int) - (k : Int) := by rw [IntKind.wrap_i64]; omega
        have C2 := Lib.hid c2
        have C3 := Lib.hid c3
        clear c1 c2 c3 c4 C r1 r2 ht e1 e2 hk hr hl ih hsz wl wr o1 o2 hP
        go_enter Tryd.func57, Tryd.ntmps57
        go_wp2_with fail
        refine (HC.out _).mono ?_
        rintro e w1 ⟨rfl, rfl⟩
        go_wp2_with fail
        go_region_law (first
          | (go_simp; go_at_call 57; (with_reducible refine (C2.out _ (HR2.out.oldn HK.out) (HT.out.oldn HK.out)).mono ?_); rintro e w' ⟨v, rfl, ho, hb⟩; have HO := Lib.hid (own_base ho HK.out.be.size); replace HK := Lib.hid (HK.out.after hb); clear hb ho)
          | (go_simp; go_at_call 30; (with_reducible refine (C3.out _ (HR1.out.oldn HK.out) (HT.out.oldn HK.out)).mono ?_); rintro e w' ⟨rfl, hb⟩; replace HK := Lib.hid (HK.out.after hb); replace HO := Lib.hid (own_keep HO.out hb); clear hb)
          | (refine step_append_lies _ (by rfl) _ _ _ (by rfl) w1.heap.size 24 z0 _ 4 16 Tryd.underlying35 hz hz0 hz1 hz2 rfl (by omega) _ P.length (mcs P) (by rfl) (HO.out.alloc _)
              ⟨_, 0, none⟩ 1 1 [.int .u32 x0, .int .u32 x1, .int .u32 x2, .int .u32 x3] (by rfl) (by rfl)
              (World.news_of_block (cs := #[.int .u32 x0, .int .u32 x1, .int .u32 x2, .int .u32 x3]) (t := 24) (fr := (0, 0)) (heap_alloc_new _ _)) (by simp [Value.oneCell'])
              (by omega) (by unfold maxLen; omega) (by omega) (by have := HK.out.be.size; simp; omega) _ rfl ?_; intro gg cap2 w2 hown hgrow hat hlt1))
        all_goals
          have HO2 := Lib.hid hown
          have HB2 := Lib.hid ((HK.out.be.plain.alloc HK.out.be.size (.cells #[.int .u32 x0, .int .u32 x1, .int .u32 x2, .int .u32 x3] 24)).grown hgrow (by have := HK.out.be.size; simp; omega) (fun k hk => (HO.out.lt k hk).1))
          clear hown hgrow hat
          go_wp2_with fail
          go_ret
          refine ⟨_, rfl, ?_, HB2.out⟩
          rw [List.length_append, mcs_snoc]
          exact HO2.out
end Go.Proofs.YtfbefenagnlnfaaDoor
set_option linter.unusedVariables false
namespace Go.Proofs.YtfbefenagnlnfaaDoor
open Go.RowKit

def GoesAt (f : FuncId) (n : Nat) : Prop := ∀ (l : Dl) (m : Nat) (wh : Bool) (b off cap : Nat) (w : World), l.length = n → 1 ≤ m → m ≤ n → n ≤ 1024 → n ≤ cap → cap ≤ 9223372036854775807 → DRow w b off l → Tabs w →
    Calls Tryd.prog f #[.slice (some ⟨b, off, none⟩) n cap, .int .i64 (m : Int), .bool wh] w (OwnE w (mgoes l m wh))
theorem own_one {w w1 : World} (hs : w.heap.size ≤ w1.heap.size) (x0 x1 x2 x3 : Int) : (w1.alloc (.cells #[.int .u32 x0, .int .u32 x1, .int .u32 x2, .int .u32 x3] 24 (0, 0))).ownsRow w.heap.size 24 4 (.slice (some ⟨w1.heap.size, 0, none⟩) 1 1) 1 (mcs [[x0, x1, x2, x3]]) :=
  ⟨rfl, .inr ⟨_, 1, _, rfl, hs, heap_alloc_new _ _, by omega, by unfold maxLen; omega, rfl, rfl⟩⟩
end Go.Proofs.YtfbefenagnlnfaaDoor
set_option linter.unusedVariables false
namespace Go.Proofs.YtfbefenagnlnfaaDoor
open Go.RowKit

/-- The block of a rest. -/
abbrev restO (v : Value) : Obj := .cells #[v] 85 (0, 0)
set_option maxRecDepth 100000 in
theorem takeLast_none (p cap : Nat) (A : Option Addr) (w : World) (hp : w.heap[p]? = some (restO (.slice A 0 cap))) :
    Calls Tryd.prog 71 #[.pointer (some ⟨p, 0, none⟩)] w fun e w' => e = .returned (.tuple #[.agg #[.int .u32 0, .int .u32 0, .int .u32 0, .int .u32 0], .bool false]) ∧ Below w.heap.size w w' := by
  have hlt : p < w.heap.size := (Array.getElem?_eq_some_iff.1 hp).1
  have hne : w.heap.size ≠ p := by omega
  obtain ⟨cp, fp⟩ := cells1 hp
  clear hp
  go_enter Tryd.func71, Tryd.ntmps71
  go_wp2_with fail
  exact bodyPost_ret (v := .tuple #[.agg #[.int .u32 0, .int .u32 0, .int .u32 0, .int .u32 0], .bool false]) (by simp [results, go_sem]) rfl ⟨rfl, (Below.refl _ _).alloc (Nat.le_refl _) _⟩
set_option maxRecDepth 100000 in
set_option maxHeartbeats 1000000 in
theorem takeLast_some (p b off n cap : Nat) (l : Dl) (w : World) {v0 v1 v2 v3 : Int} (hp : w.heap[p]? = some (restO (.slice (some ⟨b, off, none⟩) n cap))) (hl : l.length = n) (h1 : 1 ≤ n) (hn : n ≤ 1024) (hc : n ≤ cap) (hm : cap ≤ 9223372036854775807) (hr : DRow w b off l) (hpb : p ≠ b) (hj : l[n - 1]? = some [v0, v1, v2, v3]) :
    Calls Tryd.prog 71 #[.pointer (some ⟨p, 0, none⟩)] w fun e w' => e = .returned (.tuple #[.agg #[.int .u32 v0, .int .u32 v1, .int .u32 v2, .int .u32 v3], .bool true]) ∧ Bx (some p) w w' ∧ w'.heap[p]? = some (restO (.slice (some ⟨b, off, none⟩) (n - 1) cap)) := by
  have hlt : p < w.heap.size := (Array.getElem?_eq_some_iff.1 hp).1
  have hne : w.heap.size ≠ p := by omega
  have hbw := hr.lt
  have hnb : w.heap.size ≠ b := by omega
  obtain ⟨cp, fp⟩ := cells1 hp
  obtain ⟨c0, c1, c2, c3⟩ := hr.four hj
  have HP := Lib.hid hp
  clear hp hr hj hl
  have i0 : 0 ≤ (n : Int) - 1 := by omega
  have i1 : (n : Int) - 1 < (n : Int) := by omega
  have i2 : ((n : Int) - 1).toNat = n - 1 := by omega
  have i3 : n - 1 ≤ cap := by omega
  go_enter Tryd.func71, Tryd.ntmps71
  go_wp2_with fail
  have HE := Lib.hid ((((Kx.one HP.out (some p)).put1 0 rfl (.inl rfl) (.slice (some ⟨b, off, none⟩) (n - 1) cap)).more (.cells #[.int .u32 v0, .int .u32 v1, .int .u32 v2, .int .u32 v3] 24)).more (.cells #[.int .u32 v0, .int .u32 v1, .int .u32 v2, .int .u32 v3] 24))
  exact bodyPost_ret (v := .tuple #[.agg #[.int .u32 v0, .int .u32 v1, .int .u32 v2, .int .u32 v3], .bool true]) (by simp [results, go_sem]) rfl ⟨rfl, HE.out.be, HE.out.at 0 rfl⟩
/-- The rest at p reads as a list. -/
def Dq (w : World) (p : Nat) (A : Option Addr) (l : Dl) : Prop := l ≠ [] → ∃ b off, A = some ⟨b, off, none⟩ ∧ p ≠ b ∧ DRow w b off l
theorem Dq.dropLast {w : World} {p : Nat} {A : Option Addr} {l : Dl} (h : Dq w p A l) : Dq w p A l.dropLast := fun hl => by
  obtain ⟨b, off, e, hp, r⟩ := h (fun e => hl (by rw [e]; rfl))
  exact ⟨b, off, e, hp, r.dropLast⟩
theorem Dq.old {w W : World} {p : Nat} {A : Option Addr} {l : Dl} {bs : List (Nat × Obj)} (h : Dq w p A l) (hk : Kx (some p) w W bs) : Dq W p A l := fun hl => by
  obtain ⟨b, off, e, hp, r⟩ := h hl
  exact ⟨b, off, e, hp, r.old hk (fun e => hp (by injection e))⟩
theorem takeLast_any {p cap n : Nat} {A : Option Addr} {l : Dl} {v0 v1 v2 v3 : Int} (w : World) (hl : l.length = n) (h1 : 1 ≤ n) (hn : n ≤ 1024) (hc : n ≤ cap) (hm : cap ≤ 9223372036854775807) (hj : l.getLastD [] = [v0, v1, v2, v3]) (hr : Dq w p A l) (hp : w.heap[p]? = some (restO (.slice A n cap))) :
    Calls Tryd.prog 71 #[.pointer (some ⟨p, 0, none⟩)] w fun e w' => e = .returned (.tuple #[.agg #[.int .u32 v0, .int .u32 v1, .int .u32 v2, .int .u32 v3], .bool true]) ∧ Bx (some p) w w' ∧ w'.heap[p]? = some (restO (.slice A (n - 1) cap)) := by
  obtain ⟨b, off, rfl, hpb, hd⟩ := hr (fun e => by rw [e] at hl; simp at hl; omega)
  refine takeLast_some p b off n cap l w hp hl h1 hn hc hm hd hpb ?_
  rw [List.getLastD_eq_getLast?, List.getLast?_eq_getElem?, hl] at hj
  rw [List.getElem?_eq_getElem (by omega)] at hj ⊢
  rw [← hj]; rfl
theorem mcr_ok : ∀ (n i : Nat) (leaf : Ws) (l : Dl), Ok4 leaf → Oks l → Ok4 (mcr n i leaf l).1 := by
  intro n
  induction n using Nat.strongRecOn with
  | ind n ih =>
    intro i leaf l h hl
    by_cases h1 : n ≤ 1
    · rw [cr_one h1]; exact h
    · have h2 : 2 ≤ n := by omega
      have k1 := hf_lt h2
      have k2 := hf_pos n
      by_cases hp : l = []
      · subst hp
        rw [cr_none h2]; exact zero4_ok
      · by_cases hi : i < hf n
        · rw [cr_left h2 hp hi]
          exact pair_ok0 (ih (hf n) k1 _ _ _ h hl.dropLast) (hl.last hp)
        · rw [cr_right h2 hp hi]
          exact pair_ok0 (hl.last hp) (ih (n - hf n) (by omega) _ _ _ h hl.dropLast)
/-- What a call that uses up a rest gives. -/
def RestE (w : World) (p : Nat) (A : Option Addr) (cap : Nat) (x : Ws) (ok : Bool) (left : Nat) (e : Ending) (w' : World) : Prop :=
  e = .returned (.tuple #[ag x, .bool ok]) ∧ Bx (some p) w w' ∧ w'.heap[p]? = some (restO (.slice A left cap))
def RestAt (n : Nat) : Prop := ∀ (i p c cap : Nat) (A : Option Addr) (leaf : Ws) (l : Dl) (w : World), i < n → n ≤ 1024 → l.length = c → c ≤ 1024 → c ≤ cap → cap ≤ 9223372036854775807 → Ok4 leaf → Oks l → Dq w p A l → w.heap[p]? = some (restO (.slice A c cap)) → TabsB p w →
    Calls Tryd.prog 59 #[.pointer (some ⟨p, 0, none⟩), .int .i64 (n : Int), .int .i64 (i : Int), ag leaf] w (RestE w p A cap (mcr n i leaf l).1 (mcr n i leaf l).2.1 (mcr n i leaf l).2.2.length)
theorem Kx.tabs {p : Nat} {w W : World} {bs : List (Nat × Obj)} (hk : Kx (some p) w W bs) (h : TabsB p w) (hp : p < w.heap.size) : TabsB p W :=
  h.below (hk.be.to (by omega) (fun q e => by injection e with e; omega))
set_option maxRecDepth 100000 in
set_option maxHeartbeats 4000000 in
theorem rest_code : ∀ n, RestAt n := by
  intro n
  induction n using Nat.strongRecOn with
  | ind n ih =>
    intro i p c cap A leaf l w hi hn hl hc hcc hm ho hol hq hp ht
    obtain ⟨f0, f1, f2, f3, hf, _⟩ := ok4 ho
    have hlt : p < w.heap.size := (Array.getElem?_eq_some_iff.1 hp).1
    have hne : w.heap.size ≠ p := by omega
    by_cases h1 : n = 1
    · subst h1
      rw [cr_one (by omega), hf, hl]
      clear ih hq ht hol
      have HP := Lib.hid hp
      clear hp hl
      show Calls _ _ #[_, _, _, ag [f0, f1, f2, f3]] w (RestE w p A cap [f0, f1, f2, f3] true c)
      rw [ag4]
      go_enter Tryd.func59, Tryd.ntmps59
      go_wp2_with fail
      have HE := Lib.hid (((Kx.one HP.out (some p)).more (.cells #[.int .u32 f0, .int .u32 f1, .int .u32 f2, .int .u32 f3] 24)).more (.cells #[.int .u32 f0, .int .u32 f1, .int .u32 f2, .int .u32 f3] 24))
      exact bodyPost_ret (v := .tuple #[.agg #[.int .u32 f0, .int .u32 f1, .int .u32 f2, .int .u32 f3], .bool true]) (by simp [results, go_sem]) rfl ⟨rfl, HE.out.be, HE.out.at 0 rfl⟩
    · have h2 : 2 ≤ n := by omega
      have k1 := hf_lt h2
      have k2 := hf_pos n
      have i3 : ((n : Int) == 1) = false := by rw [beq_eq_false_iff_ne]; omega
      have i4 : (n == 1) = false := by rw [beq_eq_false_iff_ne]; omega
      have hmok := mcr_ok n i leaf l ho hol
      subst hf
      by_cases hl0 : l = []
      · subst hl0
        have hc0 : c = 0 := by simpa using hl.symm
        subst hc0
        rw [cr_none h2]
        have T := Lib.hid (fun w => takeLast_none p cap A w)
        have HP := Lib.hid hp
        have HK := Lib.hid (((Kx.one hp (some p)).add _ rfl (.cells #[.int .u32 f0, .int .u32 f1, .int .u32 f2, .int .u32 f3] 24 (0, 0))).add (w.heap.size + 1) (by simp) (.cells #[.int .u32 0, .int .u32 0, .int .u32 0, .int .u32 0] 24 (0, 0)))
        clear hp hl ih hq ht hol hmok ho
        show Calls _ _ #[_, _, _, ag [f0, f1, f2, f3]] w (RestE w p A cap [0, 0, 0, 0] false 0)
        rw [ag4]
        go_enter Tryd.func59, Tryd.ntmps59
        go_wp2_with fail
        refine (T.out _ (HK.out.at 0 rfl)).mono ?_
        rintro e w1 ⟨rfl, hb⟩
        have hs := hb.size
        simp at hs
        have HK1 := Lib.hid ((HK.out.after hb).more (.cells #[.int .u32 0, .int .u32 0, .int .u32 0, .int .u32 0] 24 (0, 0)))
        clear hb
        obtain ⟨a0, a1, a2, a3, d0, d1, d2, d3⟩ := cells4 (HK1.out.at 2 rfl)
        have HE := Lib.hid (HK1.out.put4 2 rfl (.inr (Nat.le_add_right _ _)) (.int .u32 0) (.int .u32 0) (.int .u32 0) (.int .u32 0))
        have HR := Lib.hid (row4 (HK1.out.at 2 rfl) (.int .u32 0) (.int .u32 0) (.int .u32 0) (.int .u32 0))
        go_wp2_with fail
        exact bodyPost_ret (v := .tuple #[.agg #[.int .u32 0, .int .u32 0, .int .u32 0, .int .u32 0], .bool false]) (by
          obtain ⟨k0, k1, k2, k3, _⟩ := cells4 HR.out
          simp [results, go_sem, k0, k1, k2, k3]) rfl ⟨rfl, HE.out.be, HE.out.at 0 rfl⟩
      · have hl1 : 1 ≤ c := by
          rw [← hl]
          exact List.length_pos_iff.2 hl0
        have hlo := hol.last hl0
        have hlo' := hlo
        obtain ⟨v0, v1, v2, v3, hlast, _⟩ := ok4 hlo'
        clear hlo'
        have t := fun w => takeLast_any (p := p) (A := A) (cap := cap) w hl hl1 hc hcc hm hlast
        have C := fun w => half_code n w h2 hn
        have T := Lib.hid t
        have HQ := Lib.hid hq
        have HT := Lib.hid ht
        by_cases hik : i < hf n
        · skip
          have wl := cr_left (leaf := [f0, f1, f2, f3]) h2 hl0 hik
          rw [wl] at hmok ⊢
          have hx := mcr_ok (hf n) i [f0, f1, f2, f3] l.dropLast ho hol.dropLast
          have c3 := fun w => ih (hf n) k1 i p (c - 1) cap A [f0, f1, f2, f3] l.dropLast w hik (by omega) (by rw [List.length_dropLast, hl]) (by omega) (by omega) hm ho hol.dropLast
          obtain ⟨CR, hCR⟩ : ∃ CR, mcr (hf n) i [f0, f1, f2, f3] l.dropLast = CR := ⟨_, rfl⟩
          rw [hCR] at hx c3 hmok ⊢
          obtain ⟨x, okb, left⟩ := CR
          have c4 := fun w ht => pair_code x (l.getLastD []) w hx hlo ht
          obtain ⟨x0, x1, x2, x3, rfl, _⟩ := ok4 hx
          rw [hlast] at c4 hmok ⊢
          simp only at hmok
          obtain ⟨z0, z1, z2, z3, hz, _⟩ := ok4 hmok
          show Calls _ _ #[_, _, _, ag [f0, f1, f2, f3]] w (RestE w p A cap (pair [x0, x1, x2, x3] [v0, v1, v2, v3]) okb left.length)
          rw [hz] at c4 ⊢
          rw [ag4, ag4, ag4] at c4
          rw [ag4]
          obtain ⟨k, hk⟩ : ∃ k, hf n = k := ⟨_, rfl⟩
          rw [hk] at C c3 k1 k2 hik
          have HC := Lib.hid C
          have C3 := Lib.hid c3
          have C4 := Lib.hid c4
          have i5 : k ≤ n := by omega
          have HK := Lib.hid (((Kx.one hp (some p)).add _ rfl (.cells #[.int .u32 f0, .int .u32 f1, .int .u32 f2, .int .u32 f3] 24 (0, 0))).add (w.heap.size + 1) (by simp) (.cells #[.int .u32 0, .int .u32 0, .int .u32 0, .int .u32 0] 24 (0, 0)))
          clear hp hl ih hq ht hol hmok ho C c3 c4 hx hCR hz hk wl hlast hl0 t
          go_enter Tryd.func59, Tryd.ntmps59
          go_wp2_with fail
          refine (T.out _ (HQ.out.old HK.out) (HK.out.at 0 rfl)).mono ?_
          rintro e w1 ⟨rfl, hb, hpp⟩
          have hs := hb.size
          simp at hs
          replace HK := Lib.hid ((HK.out.afterq 0 rfl (.inl rfl) hb hpp).add _ rfl (.cells #[.int .u32 v0, .int .u32 v1, .int .u32 v2, .int .u32 v3] 24 (0, 0)))
          clear hb hpp
          go_wp2_with fail
          refine (HC.out _).mono ?_
          rintro e w2 ⟨rfl, rfl⟩
          obtain ⟨a0, a1, a2, a3, d0, d1, d2, d3⟩ := cells4 (HK.out.at 1 rfl)
          go_wp2_with fail
          clear a0 a1 a2 a3 d0 d1 d2 d3
          refine (C3.out _ (HQ.out.dropLast.old HK.out) (HK.out.at 0 rfl) (HK.out.tabs HT.out hlt)).mono ?_
          rintro e w3 ⟨rfl, hb, hpp⟩
          have hs2 := hb.size
          simp at hs2
          replace HK := Lib.hid ((HK.out.afterq 0 rfl (.inl rfl) hb hpp).add _ rfl (.cells #[.int .u32 x0, .int .u32 x1, .int .u32 x2, .int .u32 x3] 24 (0, 0)))
          clear hb hpp
          obtain ⟨a0, a1, a2, a3, d0, d1, d2, d3⟩ := cells4 (HK.out.at 3 rfl)
          obtain ⟨b0, b1, b2, b3, e0, e1, e2, e3⟩ := cells4 (HK.out.at 4 rfl)
          rw [ag4]
          go_wp2_with fail
          clear a0 a1 a2 a3 d0 d1 d2 d3 b0 b1 b2 b3 e0 e1 e2 e3
          refine (C4.out _ (HK.out.tabs HT.out hlt).toTabs).mono ?_
          rintro e w4 ⟨rfl, hb⟩
          replace HK := Lib.hid (HK.out.after hb)
          clear hb
          obtain ⟨a0, a1, a2, a3, d0, d1, d2, d3⟩ := cells4 (HK.out.at 2 rfl)
          have HE := Lib.hid (HK.out.put4 2 rfl (.inr (Nat.le_add_right _ _)) (.int .u32 z0) (.int .u32 z1) (.int .u32 z2) (.int .u32 z3))
          have HR := Lib.hid (row4 (HK.out.at 2 rfl) (.int .u32 z0) (.int .u32 z1) (.int .u32 z2) (.int .u32 z3))
          go_wp2_with fail
          exact bodyPost_ret (v := .tuple #[.agg #[.int .u32 z0, .int .u32 z1, .int .u32 z2, .int .u32 z3], .bool okb]) (by
            obtain ⟨k0, k1, k2, k3, _⟩ := cells4 HR.out
            simp [results, go_sem, k0, k1, k2, k3]) rfl ⟨rfl, HE.out.be, HE.out.at 0 rfl⟩
        · skip
          have wl := cr_right (leaf := [f0, f1, f2, f3]) h2 hl0 hik
          rw [wl] at hmok ⊢
          have hx := mcr_ok (n - hf n) (i - hf n) [f0, f1, f2, f3] l.dropLast ho hol.dropLast
          have c3 := fun w => ih (n - hf n) (by omega) (i - hf n) p (c - 1) cap A [f0, f1, f2, f3] l.dropLast w (by omega) (by omega) (by rw [List.length_dropLast, hl]) (by omega) (by omega) hm ho hol.dropLast
          obtain ⟨CR, hCR⟩ : ∃ CR, mcr (n - hf n) (i - hf n) [f0, f1, f2, f3] l.dropLast = CR := ⟨_, rfl⟩
          rw [hCR] at hx c3 hmok ⊢
          obtain ⟨x, okb, left⟩ := CR
          have c4 := fun w ht => pair_code (l.getLastD []) x w hlo hx ht
          obtain ⟨x0, x1, x2, x3, rfl, _⟩ := ok4 hx
          rw [hlast] at c4 hmok ⊢
          simp only at hmok
          obtain ⟨z0, z1, z2, z3, hz, _⟩ := ok4 hmok
          show Calls _ _ #[_, _, _, ag [f0, f1, f2, f3]] w (RestE w p A cap (pair [v0, v1, v2, v3] [x0, x1, x2, x3]) okb left.length)
          rw [hz] at c4 ⊢
          rw [ag4, ag4, ag4] at c4
          rw [ag4]
          rw [show ((n - hf n : Nat) : Int) = (n : Int) - (hf n : Int) by omega, show ((i - hf n : Nat) : Int) = (i : Int) - (hf n : Int) by omega] at c3
          obtain ⟨k, hk⟩ : ∃ k, hf n = k := ⟨_, rfl⟩
          rw [hk] at C c3 k1 k2 hik
          have HC := Lib.hid C
          have C3 := Lib.hid c3
          have C4 := Lib.hid c4
          have i5 : k ≤ n := by omega
          have j0 : 0 ≤ (i : Int) - (k : Int) := by omega
          have j1 : 0 ≤ (n : Int) - (k : Int) := by omega
          have HK := Lib.hid (((Kx.one hp (some p)).add _ rfl (.cells #[.int .u32 f0, .int .u32 f1, .int .u32 f2, .int .u32 f3] 24 (0, 0))).add (w.heap.size + 1) (by simp) (.cells #[.int .u32 0, .int .u32 0, .int .u32 0, .int .u32 0] 24 (0, 0)))
          clear hp hl ih hq ht hol hmok ho C c3 c4 hx hCR hz hk wl hlast hl0 t
          go_enter Tryd.func59, Tryd.ntmps59
          go_wp2_with fail
          refine (T.out _ (HQ.out.old HK.out) (HK.out.at 0 rfl)).mono ?_
          rintro e w1 ⟨rfl, hb, hpp⟩
          have hs := hb.size
          simp at hs
          replace HK := Lib.hid ((HK.out.afterq 0 rfl (.inl rfl) hb hpp).add _ rfl (.cells #[.int .u32 v0, .int .u32 v1, .int .u32 v2, .int .u32 v3] 24 (0, 0)))
          clear hb hpp
          go_wp2_with fail
          refine (HC.out _).mono ?_
          rintro e w2 ⟨rfl, rfl⟩
          obtain ⟨a0, a1, a2, a3, d0, d1, d2, d3⟩ := cells4 (HK.out.at 1 rfl)
          go_wp2_with fail
          clear a0 a1 a2 a3 d0 d1 d2 d3
          refine (C3.out _ (HQ.out.dropLast.old HK.out) (HK.out.at 0 rfl) (HK.out.tabs HT.out hlt)).mono ?_
          rintro e w3 ⟨rfl, hb, hpp⟩
          have hs2 := hb.size
          simp at hs2
          replace HK := Lib.hid ((HK.out.afterq 0 rfl (.inl rfl) hb hpp).add _ rfl (.cells #[.int .u32 x0, .int .u32 x1, .int .u32 x2, .int .u32 x3] 24 (0, 0)))
          clear hb hpp
          obtain ⟨a0, a1, a2, a3, d0, d1, d2, d3⟩ := cells4 (HK.out.at 3 rfl)
          obtain ⟨b0, b1, b2, b3, e0, e1, e2, e3⟩ := cells4 (HK.out.at 4 rfl)
          rw [ag4]
          go_wp2_with fail
          clear a0 a1 a2 a3 d0 d1 d2 d3 b0 b1 b2 b3 e0 e1 e2 e3
          refine (C4.out _ (HK.out.tabs HT.out hlt).toTabs).mono ?_
          rintro e w4 ⟨rfl, hb⟩
          replace HK := Lib.hid (HK.out.after hb)
          clear hb
          obtain ⟨a0, a1, a2, a3, d0, d1, d2, d3⟩ := cells4 (HK.out.at 2 rfl)
          have HE := Lib.hid (HK.out.put4 2 rfl (.inr (Nat.le_add_right _ _)) (.int .u32 z0) (.int .u32 z1) (.int .u32 z2) (.int .u32 z3))
          have HR := Lib.hid (row4 (HK.out.at 2 rfl) (.int .u32 z0) (.int .u32 z1) (.int .u32 z2) (.int .u32 z3))
          go_wp2_with fail
          exact bodyPost_ret (v := .tuple #[.agg #[.int .u32 z0, .int .u32 z1, .int .u32 z2, .int .u32 z3], .bool okb]) (by
            obtain ⟨k0, k1, k2, k3, _⟩ := cells4 HR.out
            simp [results, go_sem, k0, k1, k2, k3]) rfl ⟨rfl, HE.out.be, HE.out.at 0 rfl⟩

end Go.Proofs.YtfbefenagnlnfaaDoor
set_option linter.unusedVariables false
namespace Go.Proofs.YtfbefenagnlnfaaDoor
open Go.RowKit

theorem mup_ok : ∀ (n i : Nat) (leaf : Ws) (l : Dl), Ok4 leaf → Oks l → Ok4 (mup n i leaf l).1 := by
  intro n
  induction n using Nat.strongRecOn with
  | ind n ih =>
    intro i leaf l h hl
    by_cases h1 : n ≤ 1
    · rw [up_one h1]; exact h
    · have h2 : 2 ≤ n := by omega
      have k1 := hf_lt h2
      have k2 := hf_pos n
      by_cases hp : l = []
      · subst hp
        rw [up_none h2]; exact h
      · by_cases hi : i < hf n
        · rw [up_left h2 hp hi]
          exact pair_ok0 (ih (hf n) k1 _ _ _ h hl.dropLast) (hl.last hp)
        · rw [up_right h2 hp hi]
          exact pair_ok0 (hl.last hp) (ih (n - hf n) (by omega) _ _ _ h hl.dropLast)
def UpE (w : World) (x : Ws) (ok : Bool) (e : Ending) (w' : World) : Prop := e = .returned (.tuple #[ag x, .bool ok]) ∧ Below w.heap.size w w'
def UpAt (n : Nat) : Prop := ∀ (i c cap : Nat) (A : Option Addr) (leaf : Ws) (l : Dl) (w : World), i < n → n ≤ 1024 → l.length = c → c ≤ 1024 → c ≤ cap → cap ≤ 9223372036854775807 → Ok4 leaf → Dd w A l →
    Calls Tryd.prog 60 #[.int .i64 (n : Int), .int .i64 (i : Int), ag leaf, .slice A c cap] w (UpE w (mup n i leaf l).1 (mup n i leaf l).2)
set_option maxRecDepth 100000 in
set_option maxHeartbeats 8000000 in
theorem up_ref : ∀ n, UpAt n := by
  intro n
  induction n using Nat.strongRecOn with
  | ind n ih =>
    intro i c cap A leaf l w hi hn hl hc hcc hm ho hd
    have hol := hd.1
    obtain ⟨f0, f1, f2, f3, hf, _⟩ := ok4 ho
    subst hf
    have hemp : l.isEmpty = (c == 0) := by
      rw [← hl]
      cases l <;> simp
    by_cases h1 : n = 1
    · subst h1
      rw [up_one (by omega), hemp]
      obtain ⟨bb, hbb⟩ : ∃ bb, (c == 0) = bb := ⟨_, rfl⟩
      have i1 : ((c : Int) == 0) = bb := by
        rw [← hbb, Bool.eq_iff_iff, beq_iff_eq, beq_iff_eq]; omega
      rw [hbb]
      clear ih hd hol hl ho hemp
      show Calls _ _ #[_, _, ag [f0, f1, f2, f3], _] w (UpE w [f0, f1, f2, f3] bb)
      rw [ag4]
      go_enter Tryd.func60, Tryd.ntmps60
      go_wp2_with fail
      exact bodyPost_ret (v := .tuple #[.agg #[.int .u32 f0, .int .u32 f1, .int .u32 f2, .int .u32 f3], .bool bb]) (by simp [results, go_sem]) rfl ⟨rfl, below2 _ _ _⟩
    · have h2 : 2 ≤ n := by omega
      have k1 := hf_lt h2
      have k2 := hf_pos n
      have i3 : ((n : Int) == 1) = false := by rw [beq_eq_false_iff_ne]; omega
      have i4 : (n == 1) = false := by rw [beq_eq_false_iff_ne]; omega
      have hmok := mup_ok n i [f0, f1, f2, f3] l ho hol
      by_cases hl0 : l = []
      · subst hl0
        have hc0 : c = 0 := by simpa using hl.symm
        subst hc0
        rw [up_none h2]
        clear hl ih hd hol hmok ho hemp
        show Calls _ _ #[_, _, ag [f0, f1, f2, f3], _] w (UpE w [f0, f1, f2, f3] false)
        rw [ag4]
        go_enter Tryd.func60, Tryd.ntmps60
        go_wp2_with fail
        exact bodyPost_ret (v := .tuple #[.agg #[.int .u32 f0, .int .u32 f1, .int .u32 f2, .int .u32 f3], .bool false]) (by simp [results, go_sem]) rfl ⟨rfl, below2 _ _ _⟩
      · have hl1 : 1 ≤ c := by
          rw [← hl]
          exact List.length_pos_iff.2 hl0
        have hlo := hol.last hl0
        have hlo' := hlo
        obtain ⟨v0, v1, v2, v3, hlast, _⟩ := ok4 hlo'
        clear hlo' hemp
        obtain ⟨b, off, rfl, hr⟩ := hd.2 hl0
        have hj : l[c - 1]? = some [v0, v1, v2, v3] := by
          rw [List.getLastD_eq_getLast?, List.getLast?_eq_getElem?, hl] at hlast
          rw [List.getElem?_eq_getElem (by omega)] at hlast ⊢
          rw [← hlast]; rfl
        obtain ⟨g0, g1, g2, g3⟩ := hr.four hj
        have hbw := hr.lt
        have hnb : w.heap.size ≠ b := by omega
        have hnb2 : w.heap.size + 1 ≠ b := by omega
        have HR := Lib.hid hr
        clear hj
        have C := fun w => half_ref n w h2 (by omega)
        have u0 : 0 ≤ (c : Int) - 1 := by omega
        have u1 : (c : Int) - 1 < (c : Int) := by omega
        have u2 : ((c : Int) - 1).toNat = c - 1 := by omega
        have u3 : c - 1 ≤ cap := by omega
        have u4 : ((c : Int) == 0) = false := by rw [beq_eq_false_iff_ne]; omega
        have u5 : (c == 0) = false := by rw [beq_eq_false_iff_ne]; omega
        by_cases hik : i < hf n
        · skip
          have wl := up_left (leaf := [f0, f1, f2, f3]) h2 hl0 hik
          rw [wl] at hmok ⊢
          have hx := mup_ok (hf n) i [f0, f1, f2, f3] l.dropLast ho hol.dropLast
          have c3 := fun w => ih (hf n) k1 i (c - 1) cap (some ⟨b, off, none⟩) [f0, f1, f2, f3] l.dropLast w hik (by omega) (by rw [List.length_dropLast, hl]) (by omega) (by omega) hm ho
          obtain ⟨CR, hCR⟩ : ∃ CR, mup (hf n) i [f0, f1, f2, f3] l.dropLast = CR := ⟨_, rfl⟩
          rw [hCR] at hx c3 hmok ⊢
          obtain ⟨x, okb⟩ := CR
          have c4 := fun w => pair_ref x (l.getLastD []) w hx hlo
          obtain ⟨x0, x1, x2, x3, rfl, _⟩ := ok4 hx
          rw [hlast] at c4 hmok ⊢
          simp only at hmok
          obtain ⟨z0, z1, z2, z3, hz, _⟩ := ok4 hmok
          show Calls _ _ #[_, _, ag [f0, f1, f2, f3], _] w (UpE w (pair [x0, x1, x2, x3] [v0, v1, v2, v3]) okb)
          rw [hz] at c4 ⊢
          rw [ag4, ag4, ag4] at c4
          rw [ag4]
          obtain ⟨k, hk⟩ : ∃ k, hf n = k := ⟨_, rfl⟩
          rw [hk] at C c3 k1 k2 hik
          have HC := Lib.hid C
          have C3 := Lib.hid c3
          have C4 := Lib.hid c4
          have i5 : k ≤ n := by omega
          have HK := Lib.hid (((((Kx.nil none w).add _ rfl (.cells #[.int .u32 f0, .int .u32 f1, .int .u32 f2, .int .u32 f3] 24 (0, 0))).add (w.heap.size + 1) (by simp) (.cells #[.int .u32 0, .int .u32 0, .int .u32 0, .int .u32 0] 24 (0, 0)))).add (w.heap.size + 1 + 1) (by simp) (.cells #[.int .u32 v0, .int .u32 v1, .int .u32 v2, .int .u32 v3] 24 (0, 0)))
          clear hl ih hd hol hmok ho C c3 c4 hx hCR hz hk wl hlast hl0 hr
          go_enter Tryd.func60, Tryd.ntmps60
          go_wp2_with fail
          refine (HC.out _).mono ?_
          rintro e w2 ⟨rfl, rfl⟩
          go_wp2_with fail
          refine (C3.out _ (Dd.row (HR.out.dropLast.oldn HK.out))).mono ?_
          rintro e w3 ⟨rfl, hb⟩
          have hs2 := hb.size
          simp at hs2
          replace HK := Lib.hid ((HK.out.after hb).add _ rfl (.cells #[.int .u32 x0, .int .u32 x1, .int .u32 x2, .int .u32 x3] 24 (0, 0)))
          clear hb
          obtain ⟨a0, a1, a2, a3, d0, d1, d2, d3⟩ := cells4 (HK.out.at 2 rfl)
          rw [ag4]
          go_wp2_with fail
          clear a0 a1 a2 a3 d0 d1 d2 d3
          refine (C4.out _).mono ?_
          rintro e w4 ⟨rfl, hb⟩
          replace HK := Lib.hid (HK.out.after hb)
          clear hb
          obtain ⟨a0, a1, a2, a3, d0, d1, d2, d3⟩ := cells4 (HK.out.at 1 rfl)
          have HE := Lib.hid (HK.out.put4 1 rfl (.inr (Nat.le_add_right _ _)) (.int .u32 z0) (.int .u32 z1) (.int .u32 z2) (.int .u32 z3))
          have HRR := Lib.hid (row4 (HK.out.at 1 rfl) (.int .u32 z0) (.int .u32 z1) (.int .u32 z2) (.int .u32 z3))
          go_wp2_with fail
          exact bodyPost_ret (v := .tuple #[.agg #[.int .u32 z0, .int .u32 z1, .int .u32 z2, .int .u32 z3], .bool okb]) (by
            obtain ⟨k0, k1, k2, k3, _⟩ := cells4 HRR.out
            simp [results, go_sem, k0, k1, k2, k3]) rfl ⟨rfl, HE.out.be.plain⟩
        · skip
          have wl := up_right (leaf := [f0, f1, f2, f3]) h2 hl0 hik
          rw [wl] at hmok ⊢
          have hx := mup_ok (n - hf n) (i - hf n) [f0, f1, f2, f3] l.dropLast ho hol.dropLast
          have c3 := fun w => ih (n - hf n) (by omega) (i - hf n) (c - 1) cap (some ⟨b, off, none⟩) [f0, f1, f2, f3] l.dropLast w (by omega) (by omega) (by rw [List.length_dropLast, hl]) (by omega) (by omega) hm ho
          obtain ⟨CR, hCR⟩ : ∃ CR, mup (n - hf n) (i - hf n) [f0, f1, f2, f3] l.dropLast = CR := ⟨_, rfl⟩
          rw [hCR] at hx c3 hmok ⊢
          obtain ⟨x, okb⟩ := CR
          have c4 := fun w => pair_ref (l.getLastD []) x w hlo hx
          obtain ⟨x0, x1, x2, x3, rfl, _⟩ := ok4 hx
          rw [hlast] at c4 hmok ⊢
          simp only at hmok
          obtain ⟨z0, z1, z2, z3, hz, _⟩ := ok4 hmok
          show Calls _ _ #[_, _, ag [f0, f1, f2, f3], _] w (UpE w (pair [v0, v1, v2, v3] [x0, x1, x2, x3]) okb)
          rw [hz] at c4 ⊢
          rw [ag4, ag4, ag4] at c4
          rw [ag4]
          rw [show ((n - hf n : Nat) : Int) = (n : Int) - (hf n : Int) by omega, show ((i - hf n : Nat) : Int) = (i : Int) - (hf n : Int) by omega] at c3
          obtain ⟨k, hk⟩ : ∃ k, hf n = k := ⟨_, rfl⟩
          rw [hk] at C c3 k1 k2 hik
          have HC := Lib.hid C
          have C3 := Lib.hid c3
          have C4 := Lib.hid c4
          have i5 : k ≤ n := by omega
          have j0 : 0 ≤ (i : Int) - (k : Int) := by omega
          have j1 : 0 ≤ (n : Int) - (k : Int) := by omega
          have HK := Lib.hid (((((Kx.nil none w).add _ rfl (.cells #[.int .u32 f0, .int .u32 f1, .int .u32 f2, .int .u32 f3] 24 (0, 0))).add (w.heap.size + 1) (by simp) (.cells #[.int .u32 0, .int .u32 0, .int .u32 0, .int .u32 0] 24 (0, 0)))).add (w.heap.size + 1 + 1) (by simp) (.cells #[.int .u32 v0, .int .u32 v1, .int .u32 v2, .int .u32 v3] 24 (0, 0)))
          clear hl ih hd hol hmok ho C c3 c4 hx hCR hz hk wl hlast hl0 hr
          go_enter Tryd.func60, Tryd.ntmps60
          go_wp2_with fail
          refine (HC.out _).mono ?_
          rintro e w2 ⟨rfl, rfl⟩
          go_wp2_with fail
          refine (C3.out _ (Dd.row (HR.out.dropLast.oldn HK.out))).mono ?_
          rintro e w3 ⟨rfl, hb⟩
          have hs2 := hb.size
          simp at hs2
          replace HK := Lib.hid ((HK.out.after hb).add _ rfl (.cells #[.int .u32 x0, .int .u32 x1, .int .u32 x2, .int .u32 x3] 24 (0, 0)))
          clear hb
          obtain ⟨a0, a1, a2, a3, d0, d1, d2, d3⟩ := cells4 (HK.out.at 2 rfl)
          rw [ag4]
          go_wp2_with fail
          clear a0 a1 a2 a3 d0 d1 d2 d3
          refine (C4.out _).mono ?_
          rintro e w4 ⟨rfl, hb⟩
          replace HK := Lib.hid (HK.out.after hb)
          clear hb
          obtain ⟨a0, a1, a2, a3, d0, d1, d2, d3⟩ := cells4 (HK.out.at 1 rfl)
          have HE := Lib.hid (HK.out.put4 1 rfl (.inr (Nat.le_add_right _ _)) (.int .u32 z0) (.int .u32 z1) (.int .u32 z2) (.int .u32 z3))
          have HRR := Lib.hid (row4 (HK.out.at 1 rfl) (.int .u32 z0) (.int .u32 z1) (.int .u32 z2) (.int .u32 z3))
          go_wp2_with fail
          exact bodyPost_ret (v := .tuple #[.agg #[.int .u32 z0, .int .u32 z1, .int .u32 z2, .int .u32 z3], .bool okb]) (by
            obtain ⟨k0, k1, k2, k3, _⟩ := cells4 HRR.out
            simp [results, go_sem, k0, k1, k2, k3]) rfl ⟨rfl, HE.out.be.plain⟩

end Go.Proofs.YtfbefenagnlnfaaDoor
set_option linter.unusedVariables false
namespace Go.Proofs.YtfbefenagnlnfaaDoor
open Go.RowKit

theorem mon_ok : ∀ (m n : Nat) (old : Ws) (wh : Bool) (l : Dl), Ok4 old → Oks l → Ok4 (mon old m n wh l).1 ∧ Ok4 (mon old m n wh l).2.1 := by
  intro m n
  induction n using Nat.strongRecOn generalizing m with
  | ind n ih =>
    intro old wh l h hl
    by_cases hm : m = n
    · subst hm
      cases wh
      · by_cases h1 : l.length = 1
        · have hp : l ≠ [] := fun e => by rw [e] at h1; simp at h1
          rw [on_cut h1]; exact ⟨hl.last hp, hl.last hp⟩
        · rw [on_cut_no h1]; exact ⟨h, h⟩
      · rw [on_whole]; exact ⟨h, h⟩
    · by_cases hp : l = []
      · subst hp
        rw [on_none hm]; exact ⟨h, h⟩
      · by_cases h1 : n ≤ 1
        · rw [mon, if_neg hm, if_neg hp, dif_pos h1]; exact ⟨h, h⟩
        · have h2 : 2 ≤ n := by omega
          have k1 := hf_lt h2
          have k2 := hf_pos n
          by_cases hi : m ≤ hf n
          · rw [on_left h2 hm hp hi]
            obtain ⟨a, b⟩ := ih (hf n) k1 m old wh l.dropLast h hl.dropLast
            exact ⟨a, pair_ok0 b (hl.last hp)⟩
          · rw [on_right h2 hm hp hi]
            obtain ⟨a, b⟩ := ih (n - hf n) (by omega) (m - hf n) old false l.dropLast h hl.dropLast
            exact ⟨pair_ok0 (hl.last hp) a, pair_ok0 (hl.last hp) b⟩
def OnE (w : World) (x y : Ws) (ok : Bool) (e : Ending) (w' : World) : Prop := e = .returned (.tuple #[ag x, ag y, .bool ok]) ∧ Below w.heap.size w w'
theorem allT {p : Option Nat} {w W : World} {n3 n4 n5 : Nat} {a b c : Nat × Obj} {tv tx ty : TypeId} {v0 v1 v2 v3 x0 x1 x2 x3 y0 y1 y2 y3 : Int} (h : Kx p w W [a, b, c, (n3, .cells #[.int .u32 v0, .int .u32 v1, .int .u32 v2, .int .u32 v3] tv (0, 0)), (n4, .cells #[.int .u32 x0, .int .u32 x1, .int .u32 x2, .int .u32 x3] tx (0, 0)), (n5, .cells #[.int .u32 y0, .int .u32 y1, .int .u32 y2, .int .u32 y3] ty (0, 0))]) : W.cell? ⟨n3, 0, none⟩ = some (.int .u32 v0) ∧ W.cell? ⟨n3, 1, none⟩ = some (.int .u32 v1) ∧ W.cell? ⟨n3, 2, none⟩ = some (.int .u32 v2) ∧ W.cell? ⟨n3, 3, none⟩ = some (.int .u32 v3) ∧ W.cell? ⟨n4, 0, none⟩ = some (.int .u32 x0) ∧ W.cell? ⟨n4, 1, none⟩ = some (.int .u32 x1) ∧ W.cell? ⟨n4, 2, none⟩ = some (.int .u32 x2) ∧ W.cell? ⟨n4, 3, none⟩ = some (.int .u32 x3) ∧ W.cell? ⟨n5, 0, none⟩ = some (.int .u32 y0) ∧ W.cell? ⟨n5, 1, none⟩ = some (.int .u32 y1) ∧ W.cell? ⟨n5, 2, none⟩ = some (.int .u32 y2) ∧ W.cell? ⟨n5, 3, none⟩ = some (.int .u32 y3) := by
  obtain ⟨a0, a1, a2, a3, _⟩ := cells4 (h.at 3 rfl)
  obtain ⟨b0, b1, b2, b3, _⟩ := cells4 (h.at 4 rfl)
  obtain ⟨c0, c1, c2, c3, _⟩ := cells4 (h.at 5 rfl)
  exact ⟨a0, a1, a2, a3, b0, b1, b2, b3, c0, c1, c2, c3⟩
theorem allT1 {p : Option Nat} {w W : World} {n3 n4 n5 q : Nat} {a c : Nat × Obj} {tv tx ty tg : TypeId} {v0 v1 v2 v3 x0 x1 x2 x3 y0 y1 y2 y3 : Int} {g0 g1 g2 g3 s0 s1 s2 s3 : Value} (h : Kx p w W [a, (q, .cells #[g0, g1, g2, g3] tg (0, 0)), c, (n3, .cells #[.int .u32 v0, .int .u32 v1, .int .u32 v2, .int .u32 v3] tv (0, 0)), (n4, .cells #[.int .u32 x0, .int .u32 x1, .int .u32 x2, .int .u32 x3] tx (0, 0)), (n5, .cells #[.int .u32 y0, .int .u32 y1, .int .u32 y2, .int .u32 y3] ty (0, 0))]) (hq : p = some q ∨ w.heap.size ≤ q) : ((((W.setCell ⟨q, 0, none⟩ s0).setCell ⟨q, 1, none⟩ s1).setCell ⟨q, 2, none⟩ s2).setCell ⟨q, 3, none⟩ s3).cell? ⟨n3, 0, none⟩ = some (.int .u32 v0) ∧ ((((W.setCell ⟨q, 0, none⟩ s0).setCell ⟨q, 1, none⟩ s1).setCell ⟨q, 2, none⟩ s2).setCell ⟨q, 3, none⟩ s3).cell? ⟨n3, 1, none⟩ = some (.int .u32 v1) ∧ ((((W.setCell ⟨q, 0, none⟩ s0).setCell ⟨q, 1, none⟩ s1).setCell ⟨q, 2, none⟩ s2).setCell ⟨q, 3, none⟩ s3).cell? ⟨n3, 2, none⟩ = some (.int .u32 v2) ∧ ((((W.setCell ⟨q, 0, none⟩ s0).setCell ⟨q, 1, none⟩ s1).setCell ⟨q, 2, none⟩ s2).setCell ⟨q, 3, none⟩ s3).cell? ⟨n3, 3, none⟩ = some (.int .u32 v3) ∧ ((((W.setCell ⟨q, 0, none⟩ s0).setCell ⟨q, 1, none⟩ s1).setCell ⟨q, 2, none⟩ s2).setCell ⟨q, 3, none⟩ s3).cell? ⟨n4, 0, none⟩ = some (.int .u32 x0) ∧ ((((W.setCell ⟨q, 0, none⟩ s0).setCell ⟨q, 1, none⟩ s1).setCell ⟨q, 2, none⟩ s2).setCell ⟨q, 3, none⟩ s3).cell? ⟨n4, 1, none⟩ = some (.int .u32 x1) ∧ ((((W.setCell ⟨q, 0, none⟩ s0).setCell ⟨q, 1, none⟩ s1).setCell ⟨q, 2, none⟩ s2).setCell ⟨q, 3, none⟩ s3).cell? ⟨n4, 2, none⟩ = some (.int .u32 x2) ∧ ((((W.setCell ⟨q, 0, none⟩ s0).setCell ⟨q, 1, none⟩ s1).setCell ⟨q, 2, none⟩ s2).setCell ⟨q, 3, none⟩ s3).cell? ⟨n4, 3, none⟩ = some (.int .u32 x3) ∧ ((((W.setCell ⟨q, 0, none⟩ s0).setCell ⟨q, 1, none⟩ s1).setCell ⟨q, 2, none⟩ s2).setCell ⟨q, 3, none⟩ s3).cell? ⟨n5, 0, none⟩ = some (.int .u32 y0) ∧ ((((W.setCell ⟨q, 0, none⟩ s0).setCell ⟨q, 1, none⟩ s1).setCell ⟨q, 2, none⟩ s2).setCell ⟨q, 3, none⟩ s3).cell? ⟨n5, 1, none⟩ = some (.int .u32 y1) ∧ ((((W.setCell ⟨q, 0, none⟩ s0).setCell ⟨q, 1, none⟩ s1).setCell ⟨q, 2, none⟩ s2).setCell ⟨q, 3, none⟩ s3).cell? ⟨n5, 2, none⟩ = some (.int .u32 y2) ∧ ((((W.setCell ⟨q, 0, none⟩ s0).setCell ⟨q, 1, none⟩ s1).setCell ⟨q, 2, none⟩ s2).setCell ⟨q, 3, none⟩ s3).cell? ⟨n5, 3, none⟩ = some (.int .u32 y3) :=
  allT (h.put4 1 rfl hq s0 s1 s2 s3)
theorem allT2 {p : Option Nat} {w W : World} {n3 n4 n5 q r : Nat} {a : Nat × Obj} {tv tx ty tg th : TypeId} {v0 v1 v2 v3 x0 x1 x2 x3 y0 y1 y2 y3 : Int} {g0 g1 g2 g3 h0 h1 h2 h3 s0 s1 s2 s3 u0 u1 u2 u3 : Value} (h : Kx p w W [a, (q, .cells #[g0, g1, g2, g3] tg (0, 0)), (r, .cells #[h0, h1, h2, h3] th (0, 0)), (n3, .cells #[.int .u32 v0, .int .u32 v1, .int .u32 v2, .int .u32 v3] tv (0, 0)), (n4, .cells #[.int .u32 x0, .int .u32 x1, .int .u32 x2, .int .u32 x3] tx (0, 0)), (n5, .cells #[.int .u32 y0, .int .u32 y1, .int .u32 y2, .int .u32 y3] ty (0, 0))]) (hq : p = some q ∨ w.heap.size ≤ q) (hr : p = some r ∨ w.heap.size ≤ r) : ((((((((W.setCell ⟨q, 0, none⟩ s0).setCell ⟨q, 1, none⟩ s1).setCell ⟨q, 2, none⟩ s2).setCell ⟨q, 3, none⟩ s3).setCell ⟨r, 0, none⟩ u0).setCell ⟨r, 1, none⟩ u1).setCell ⟨r, 2, none⟩ u2).setCell ⟨r, 3, none⟩ u3).cell? ⟨n3, 0, none⟩ = some (.int .u32 v0) ∧ ((((((((W.setCell ⟨q, 0, none⟩ s0).setCell ⟨q, 1, none⟩ s1).setCell ⟨q, 2, none⟩ s2).setCell ⟨q, 3, none⟩ s3).setCell ⟨r, 0, none⟩ u0).setCell ⟨r, 1, none⟩ u1).setCell ⟨r, 2, none⟩ u2).setCell ⟨r, 3, none⟩ u3).cell? ⟨n3, 1, none⟩ = some (.int .u32 v1) ∧ ((((((((W.setCell ⟨q, 0, none⟩ s0).setCell ⟨q, 1, none⟩ s1).setCell ⟨q, 2, none⟩ s2).setCell ⟨q, 3, none⟩ s3).setCell ⟨r, 0, none⟩ u0).setCell ⟨r, 1, none⟩ u1).setCell ⟨r, 2, none⟩ u2).setCell ⟨r, 3, none⟩ u3).cell? ⟨n3, 2, none⟩ = some (.int .u32 v2) ∧ ((((((((W.setCell ⟨q, 0, none⟩ s0).setCell ⟨q, 1, none⟩ s1).setCell ⟨q, 2, none⟩ s2).setCell ⟨q, 3, none⟩ s3).setCell ⟨r, 0, none⟩ u0).setCell ⟨r, 1, none⟩ u1).setCell ⟨r, 2, none⟩ u2).setCell ⟨r, 3, none⟩ u3).cell? ⟨n3, 3, none⟩ = some (.int .u32 v3) ∧ ((((((((W.setCell ⟨q, 0, none⟩ s0).setCell ⟨q, 1, none⟩ s1).setCell ⟨q, 2, none⟩ s2).setCell ⟨q, 3, none⟩ s3).setCell ⟨r, 0, none⟩ u0).setCell ⟨r, 1, none⟩ u1).setCell ⟨r, 2, none⟩ u2).setCell ⟨r, 3, none⟩ u3).cell? ⟨n4, 0, none⟩ = some (.int .u32 x0) ∧ ((((((((W.setCell ⟨q, 0, none⟩ s0).setCell ⟨q, 1, none⟩ s1).setCell ⟨q, 2, none⟩ s2).setCell ⟨q, 3, none⟩ s3).setCell ⟨r, 0, none⟩ u0).setCell ⟨r, 1, none⟩ u1).setCell ⟨r, 2, none⟩ u2).setCell ⟨r, 3, none⟩ u3).cell? ⟨n4, 1, none⟩ = some (.int .u32 x1) ∧ ((((((((W.setCell ⟨q, 0, none⟩ s0).setCell ⟨q, 1, none⟩ s1).setCell ⟨q, 2, none⟩ s2).setCell ⟨q, 3, none⟩ s3).setCell ⟨r, 0, none⟩ u0).setCell ⟨r, 1, none⟩ u1).setCell ⟨r, 2, none⟩ u2).setCell ⟨r, 3, none⟩ u3).cell? ⟨n4, 2, none⟩ = some (.int .u32 x2) ∧ ((((((((W.setCell ⟨q, 0, none⟩ s0).setCell ⟨q, 1, none⟩ s1).setCell ⟨q, 2, none⟩ s2).setCell ⟨q, 3, none⟩ s3).setCell ⟨r, 0, none⟩ u0).setCell ⟨r, 1, none⟩ u1).setCell ⟨r, 2, none⟩ u2).setCell ⟨r, 3, none⟩ u3).cell? ⟨n4, 3, none⟩ = some (.int .u32 x3) ∧ ((((((((W.setCell ⟨q, 0, none⟩ s0).setCell ⟨q, 1, none⟩ s1).setCell ⟨q, 2, none⟩ s2).setCell ⟨q, 3, none⟩ s3).setCell ⟨r, 0, none⟩ u0).setCell ⟨r, 1, none⟩ u1).setCell ⟨r, 2, none⟩ u2).setCell ⟨r, 3, none⟩ u3).cell? ⟨n5, 0, none⟩ = some (.int .u32 y0) ∧ ((((((((W.setCell ⟨q, 0, none⟩ s0).setCell ⟨q, 1, none⟩ s1).setCell ⟨q, 2, none⟩ s2).setCell ⟨q, 3, none⟩ s3).setCell ⟨r, 0, none⟩ u0).setCell ⟨r, 1, none⟩ u1).setCell ⟨r, 2, none⟩ u2).setCell ⟨r, 3, none⟩ u3).cell? ⟨n5, 1, none⟩ = some (.int .u32 y1) ∧ ((((((((W.setCell ⟨q, 0, none⟩ s0).setCell ⟨q, 1, none⟩ s1).setCell ⟨q, 2, none⟩ s2).setCell ⟨q, 3, none⟩ s3).setCell ⟨r, 0, none⟩ u0).setCell ⟨r, 1, none⟩ u1).setCell ⟨r, 2, none⟩ u2).setCell ⟨r, 3, none⟩ u3).cell? ⟨n5, 2, none⟩ = some (.int .u32 y2) ∧ ((((((((W.setCell ⟨q, 0, none⟩ s0).setCell ⟨q, 1, none⟩ s1).setCell ⟨q, 2, none⟩ s2).setCell ⟨q, 3, none⟩ s3).setCell ⟨r, 0, none⟩ u0).setCell ⟨r, 1, none⟩ u1).setCell ⟨r, 2, none⟩ u2).setCell ⟨r, 3, none⟩ u3).cell? ⟨n5, 3, none⟩ = some (.int .u32 y3) :=
  allT ((h.put4 1 rfl hq s0 s1 s2 s3).put4 2 rfl hr u0 u1 u2 u3)

end Go.Proofs.YtfbefenagnlnfaaDoor
set_option linter.unusedVariables false
namespace Go.Proofs.YtfbefenagnlnfaaDoor
open Go.RowKit

theorem mrts_ok : ∀ (m n : Nat) (old : Ws) (wh : Bool) (l : Dl), Ok4 old → Oks l → Ok4 (mrts m n old wh l).1.1 ∧ Ok4 (mrts m n old wh l).1.2 := by
  intro m n
  induction n using Nat.strongRecOn generalizing m with
  | ind n ih =>
    intro old wh l h hl
    by_cases hw : m = n ∧ wh = true
    · obtain ⟨rfl, rfl⟩ := hw
      rw [rts_whole]; exact ⟨h, h⟩
    · by_cases hp : l = []
      · subst hp
        rw [rts_none hw]; exact ⟨zero4_ok, zero4_ok⟩
      · by_cases hm : m = n
        · subst hm
          cases wh
          · rw [rts_cut hp]; exact ⟨hl.last hp, hl.last hp⟩
          · exact absurd ⟨rfl, rfl⟩ hw
        · by_cases h1 : n ≤ 1
          · rw [mrts, if_neg hw, if_neg hp, if_neg hm, dif_pos h1]; exact ⟨zero4_ok, zero4_ok⟩
          · have h2 : 2 ≤ n := by omega
            have k1 := hf_lt h2
            have k2 := hf_pos n
            by_cases hi : m ≤ hf n
            · rw [rts_left h2 hm hp hi]
              obtain ⟨a, b⟩ := ih (hf n) k1 m old wh l.dropLast h hl.dropLast
              exact ⟨a, pair_ok0 b (hl.last hp)⟩
            · rw [rts_right h2 hm hp hi]
              obtain ⟨a, b⟩ := ih (n - hf n) (by omega) (m - hf n) old false l.dropLast h hl.dropLast
              exact ⟨pair_ok0 (hl.last hp) a, pair_ok0 (hl.last hp) b⟩
theorem ag44 (a0 a1 a2 a3 b0 b1 b2 b3 : Int) : ag ([a0, a1, a2, a3] ++ [b0, b1, b2, b3]) = .agg #[.int .u32 a0, .int .u32 a1, .int .u32 a2, .int .u32 a3, .int .u32 b0, .int .u32 b1, .int .u32 b2, .int .u32 b3] := rfl
def RtsE (w : World) (p : Nat) (A : Option Addr) (cap : Nat) (x y : Ws) (ok : Bool) (left : Nat) (e : Ending) (w' : World) : Prop :=
  e = .returned (.tuple #[ag (x ++ y), .bool ok]) ∧ Bx (some p) w w' ∧ w'.heap[p]? = some (restO (.slice A left cap))
theorem allS {p : Option Nat} {w W : World} {n3 n4 : Nat} {a b c : Nat × Obj} {t u : TypeId} {v0 v1 v2 v3 x0 x1 x2 x3 y0 y1 y2 y3 : Int} (h : Kx p w W [a, b, c, (n3, .cells #[.int .u32 v0, .int .u32 v1, .int .u32 v2, .int .u32 v3] t (0, 0)), (n4, .cells #[.int .u32 x0, .int .u32 x1, .int .u32 x2, .int .u32 x3, .int .u32 y0, .int .u32 y1, .int .u32 y2, .int .u32 y3] u (0, 0))]) : W.cell? ⟨n3, 0, none⟩ = some (.int .u32 v0) ∧ W.cell? ⟨n3, 1, none⟩ = some (.int .u32 v1) ∧ W.cell? ⟨n3, 2, none⟩ = some (.int .u32 v2) ∧ W.cell? ⟨n3, 3, none⟩ = some (.int .u32 v3) ∧ W.cell? ⟨n4, 0, none⟩ = some (.int .u32 x0) ∧ W.cell? ⟨n4, 1, none⟩ = some (.int .u32 x1) ∧ W.cell? ⟨n4, 2, none⟩ = some (.int .u32 x2) ∧ W.cell? ⟨n4, 3, none⟩ = some (.int .u32 x3) ∧ W.cell? ⟨n4, 4, none⟩ = some (.int .u32 y0) ∧ W.cell? ⟨n4, 5, none⟩ = some (.int .u32 y1) ∧ W.cell? ⟨n4, 6, none⟩ = some (.int .u32 y2) ∧ W.cell? ⟨n4, 7, none⟩ = some (.int .u32 y3) := by
  obtain ⟨a0, a1, a2, a3, _⟩ := cells4 (h.at 3 rfl)
  obtain ⟨b0, b1, b2, b3, b4, b5, b6, b7, _⟩ := cells8 (h.at 4 rfl)
  exact ⟨a0, a1, a2, a3, b0, b1, b2, b3, b4, b5, b6, b7⟩
theorem allS2 {p : Option Nat} {w W : World} {n3 n4 q : Nat} {a b : Nat × Obj} {t u r : TypeId} {s0 s1 s2 s3 s4 s5 s6 s7 g0 g1 g2 g3 g4 g5 g6 g7 : Value} {v0 v1 v2 v3 x0 x1 x2 x3 y0 y1 y2 y3 : Int} (h : Kx p w W [a, b, (q, .cells #[g0, g1, g2, g3, g4, g5, g6, g7] r (0, 0)), (n3, .cells #[.int .u32 v0, .int .u32 v1, .int .u32 v2, .int .u32 v3] t (0, 0)), (n4, .cells #[.int .u32 x0, .int .u32 x1, .int .u32 x2, .int .u32 x3, .int .u32 y0, .int .u32 y1, .int .u32 y2, .int .u32 y3] u (0, 0))]) (hq : p = some q ∨ w.heap.size ≤ q) : ((((((((W.setCell ⟨q, 0, none⟩ s0).setCell ⟨q, 1, none⟩ s1).setCell ⟨q, 2, none⟩ s2).setCell ⟨q, 3, none⟩ s3).setCell ⟨q, 4, none⟩ s4).setCell ⟨q, 5, none⟩ s5).setCell ⟨q, 6, none⟩ s6).setCell ⟨q, 7, none⟩ s7).cell? ⟨n3, 0, none⟩ = some (.int .u32 v0) ∧ ((((((((W.setCell ⟨q, 0, none⟩ s0).setCell ⟨q, 1, none⟩ s1).setCell ⟨q, 2, none⟩ s2).setCell ⟨q, 3, none⟩ s3).setCell ⟨q, 4, none⟩ s4).setCell ⟨q, 5, none⟩ s5).setCell ⟨q, 6, none⟩ s6).setCell ⟨q, 7, none⟩ s7).cell? ⟨n3, 1, none⟩ = some (.int .u32 v1) ∧ ((((((((W.setCell ⟨q, 0, none⟩ s0).setCell ⟨q, 1, none⟩ s1).setCell ⟨q, 2, none⟩ s2).setCell ⟨q, 3, none⟩ s3).setCell ⟨q, 4, none⟩ s4).setCell ⟨q, 5, none⟩ s5).setCell ⟨q, 6, none⟩ s6).setCell ⟨q, 7, none⟩ s7).cell? ⟨n3, 2, none⟩ = some (.int .u32 v2) ∧ ((((((((W.setCell ⟨q, 0, none⟩ s0).setCell ⟨q, 1, none⟩ s1).setCell ⟨q, 2, none⟩ s2).setCell ⟨q, 3, none⟩ s3).setCell ⟨q, 4, none⟩ s4).setCell ⟨q, 5, none⟩ s5).setCell ⟨q, 6, none⟩ s6).setCell ⟨q, 7, none⟩ s7).cell? ⟨n3, 3, none⟩ = some (.int .u32 v3) ∧ ((((((((W.setCell ⟨q, 0, none⟩ s0).setCell ⟨q, 1, none⟩ s1).setCell ⟨q, 2, none⟩ s2).setCell ⟨q, 3, none⟩ s3).setCell ⟨q, 4, none⟩ s4).setCell ⟨q, 5, none⟩ s5).setCell ⟨q, 6, none⟩ s6).setCell ⟨q, 7, none⟩ s7).cell? ⟨n4, 0, none⟩ = some (.int .u32 x0) ∧ ((((((((W.setCell ⟨q, 0, none⟩ s0).setCell ⟨q, 1, none⟩ s1).setCell ⟨q, 2, none⟩ s2).setCell ⟨q, 3, none⟩ s3).setCell ⟨q, 4, none⟩ s4).setCell ⟨q, 5, none⟩ s5).setCell ⟨q, 6, none⟩ s6).setCell ⟨q, 7, none⟩ s7).cell? ⟨n4, 1, none⟩ = some (.int .u32 x1) ∧ ((((((((W.setCell ⟨q, 0, none⟩ s0).setCell ⟨q, 1, none⟩ s1).setCell ⟨q, 2, none⟩ s2).setCell ⟨q, 3, none⟩ s3).setCell ⟨q, 4, none⟩ s4).setCell ⟨q, 5, none⟩ s5).setCell ⟨q, 6, none⟩ s6).setCell ⟨q, 7, none⟩ s7).cell? ⟨n4, 2, none⟩ = some (.int .u32 x2) ∧ ((((((((W.setCell ⟨q, 0, none⟩ s0).setCell ⟨q, 1, none⟩ s1).setCell ⟨q, 2, none⟩ s2).setCell ⟨q, 3, none⟩ s3).setCell ⟨q, 4, none⟩ s4).setCell ⟨q, 5, none⟩ s5).setCell ⟨q, 6, none⟩ s6).setCell ⟨q, 7, none⟩ s7).cell? ⟨n4, 3, none⟩ = some (.int .u32 x3) ∧ ((((((((W.setCell ⟨q, 0, none⟩ s0).setCell ⟨q, 1, none⟩ s1).setCell ⟨q, 2, none⟩ s2).setCell ⟨q, 3, none⟩ s3).setCell ⟨q, 4, none⟩ s4).setCell ⟨q, 5, none⟩ s5).setCell ⟨q, 6, none⟩ s6).setCell ⟨q, 7, none⟩ s7).cell? ⟨n4, 4, none⟩ = some (.int .u32 y0) ∧ ((((((((W.setCell ⟨q, 0, none⟩ s0).setCell ⟨q, 1, none⟩ s1).setCell ⟨q, 2, none⟩ s2).setCell ⟨q, 3, none⟩ s3).setCell ⟨q, 4, none⟩ s4).setCell ⟨q, 5, none⟩ s5).setCell ⟨q, 6, none⟩ s6).setCell ⟨q, 7, none⟩ s7).cell? ⟨n4, 5, none⟩ = some (.int .u32 y1) ∧ ((((((((W.setCell ⟨q, 0, none⟩ s0).setCell ⟨q, 1, none⟩ s1).setCell ⟨q, 2, none⟩ s2).setCell ⟨q, 3, none⟩ s3).setCell ⟨q, 4, none⟩ s4).setCell ⟨q, 5, none⟩ s5).setCell ⟨q, 6, none⟩ s6).setCell ⟨q, 7, none⟩ s7).cell? ⟨n4, 6, none⟩ = some (.int .u32 y2) ∧ ((((((((W.setCell ⟨q, 0, none⟩ s0).setCell ⟨q, 1, none⟩ s1).setCell ⟨q, 2, none⟩ s2).setCell ⟨q, 3, none⟩ s3).setCell ⟨q, 4, none⟩ s4).setCell ⟨q, 5, none⟩ s5).setCell ⟨q, 6, none⟩ s6).setCell ⟨q, 7, none⟩ s7).cell? ⟨n4, 7, none⟩ = some (.int .u32 y3) :=
  allS (h.put8 2 rfl hq s0 s1 s2 s3 s4 s5 s6 s7)

end Go.Proofs.YtfbefenagnlnfaaDoor
