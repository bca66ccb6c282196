/- merkle's prove and the reference's way: the contracts. -/
import Derived.Test.YtcjclbhkheogpaaDoorMerB
import Derived.Test.YtcjclbhkheogpaaDoorOwnE
import Derived.Deep.AppendLies
import Derived.Deep.RegionLaw
set_option linter.unusedVariables false
namespace Go.Proofs.YtcjclbhkheogpaaDoor
open Go.RowKit

def WayAt (f : FuncId) (n : Nat) : Prop := ∀ (l : Dl) (i b off cap : Nat) (w : World), l.length = n → i < n → n ≤ 1024 → n ≤ cap → cap ≤ 9223372036854775807 → DRow w b off l → Tabs w →
    Calls Tryd.prog f #[.slice (some ⟨b, off, none⟩) n cap, .int .i64 (i : Int)] w (OwnE w (mway l i))
set_option maxRecDepth 100000 in
set_option maxHeartbeats 4000000 in
theorem prove_code : ∀ n, WayAt 24 n := by
  intro n
  induction n using Nat.strongRecOn with
  | ind n ih =>
    intro l i b off cap w hl hi hn hc hm hr ht
    by_cases h2 : n = 1
    · subst h2
      rw [way_small (by omega)]
      clear ih hr ht hl
      go_enter Tryd.func24, Tryd.ntmps24
      go_wp2_with fail
      go_ret
      exact ⟨_, rfl, World.ownsRow_nil _ _ _ _, Below.refl _ _⟩
    · have h2 : 2 ≤ n := by omega
      have k1 := hf_lt h2
      have k2 := hf_pos n
      have C := fun w => half_code n w h2 hn
      have hsz := way_short 10 l i (by omega)
      have wl := way_left (l := l) (i := i) (by omega)
      have wr := way_right (l := l) (i := i) (by omega)
      rw [hl] at wl wr
      have o1 : Ok4 (mroot (l.take (hf n))) := (hr.ok.take _).mroot
      have o2 : Ok4 (mroot (l.drop (hf n))) := (hr.ok.drop _).mroot
      have c1 := fun w => ih (hf n) k1 (l.take (hf n)) i b off cap w (by rw [List.length_take]; omega)
      have c2 := fun w => ih (n - hf n) (by omega) (l.drop (hf n)) (i - hf n) b (off + hf n * 4) (cap - hf n) w (by rw [List.length_drop, hl])
      have c3 := fun w => root_code (hf n) (l.take (hf n)) b off cap w (by rw [List.length_take]; omega) k2 (by omega) (by omega) hm
      have c4 := fun w => root_code (n - hf n) (l.drop (hf n)) b (off + hf n * 4) (cap - hf n) w (by rw [List.length_drop, hl]) (by omega) (by omega) (by omega) (by omega)
      have r1 := hr.take (hf n)
      have r2 := hr.drop (hf n)
      obtain ⟨x0, x1, x2, x3, e1, _⟩ := ok4 o1
      obtain ⟨y0, y1, y2, y3, e2, _⟩ := ok4 o2
      rw [e1] at wr
      rw [e2] at wl
      rw [e1, ag4] at c3
      rw [e2, ag4] at c4
      obtain ⟨k, hk⟩ : ∃ k, hf n = k := ⟨_, rfl⟩
      rw [hk] at C c1 c2 c3 c4 k1 k2 r1 r2 wl wr
      have i0 : ¬ cap = k := by omega
      have i1 : k ≤ cap := by omega
      have i2 : k ≤ n := by omega
      have i3 : (n == 1) = false := by rw [beq_eq_false_iff_ne]; omega
      have i4 : ((n : Int) == 1) = false := by rw [beq_eq_false_iff_ne]; omega
      have HC := Lib.hid C
      have HR1 := Lib.hid r1
      have HR2 := Lib.hid r2
      have HT := Lib.hid ht
      have HK := Lib.hid (Kx.nil none w).drew
      obtain ⟨z0, hz, hz0, hz1, hz2⟩ := info_parts infoDg
      by_cases hik : i < k
      · have wl := wl hik
        rw [wl] at hsz ⊢
        obtain ⟨P, hP⟩ : ∃ P, mway (l.take k) i = P := ⟨_, rfl⟩
        have c1 := fun w => c1 w hik (by omega) (by omega) hm
        rw [hP] at c1 hsz ⊢
        have hq : P.length ≤ 10 := by rw [List.length_append] at hsz; omega
        have C1 := Lib.hid c1
        have C4 := Lib.hid c4
        clear c1 c2 c3 c4 C r1 r2 ht e1 e2 hk hr hl ih hsz wl wr o1 o2 hP
        go_enter Tryd.func24, Tryd.ntmps24
        go_wp2_with fail
        refine (HC.out _).mono ?_
        rintro e w1 ⟨rfl, rfl⟩
        go_wp2_with fail
        go_region_law (first
          | (go_simp; go_at_call 24; (with_reducible refine (C1.out _ (HR1.out.oldn HK.out) (HT.out.oldn HK.out)).mono ?_); rintro e w' ⟨v, rfl, ho, hb⟩; have HO := Lib.hid (own_base ho HK.out.be.size); replace HK := Lib.hid (HK.out.after hb); clear hb ho)
          | (go_simp; go_at_call 9; (with_reducible refine (C4.out _ (HR2.out.oldn HK.out) (HT.out.oldn HK.out)).mono ?_); rintro e w' ⟨rfl, hb⟩; replace HK := Lib.hid (HK.out.after hb); replace HO := Lib.hid (own_keep HO.out hb); clear hb)
          | (refine step_append_lies _ (by rfl) _ _ _ (by rfl) w1.heap.size 26 z0 _ 4 16 Tryd.underlying22 hz hz0 hz1 hz2 rfl (by omega) _ P.length (mcs P) (by rfl) (HO.out.alloc _)
              ⟨_, 0, none⟩ 1 1 [.int .u32 y0, .int .u32 y1, .int .u32 y2, .int .u32 y3] (by rfl) (by rfl)
              (World.news_of_block (cs := #[.int .u32 y0, .int .u32 y1, .int .u32 y2, .int .u32 y3]) (t := 26) (fr := (0, 0)) (heap_alloc_new _ _)) (by simp [Value.oneCell'])
              (by omega) (by unfold maxLen; omega) (by omega) (by have := HK.out.be.size; simp; omega) _ rfl ?_; intro gg cap2 w2 hown hgrow hat hlt1))
        all_goals
          have HO2 := Lib.hid hown
          have HB2 := Lib.hid ((HK.out.be.plain.alloc HK.out.be.size (.cells #[.int .u32 y0, .int .u32 y1, .int .u32 y2, .int .u32 y3] 26)).grown hgrow (by have := HK.out.be.size; simp; omega) (fun k hk => (HO.out.lt k hk).1))
          clear hown hgrow hat
          go_wp2_with fail
          go_ret
          refine ⟨_, rfl, ?_, HB2.out⟩
          rw [List.length_append, mcs_snoc]
          exact HO2.out
      · have wr := wr hik
        rw [wr] at hsz ⊢
        obtain ⟨P, hP⟩ : ∃ P, mway (l.drop k) (i - k) = P := ⟨_, rfl⟩
        have c2 := fun w => c2 w (by omega) (by omega) (by omega) (by omega)
        rw [hP, show ((i - k : Nat) : Int) = (i : Int) - (k : Int) by omega] at c2
        rw [hP] at hsz ⊢
        have hq : P.length ≤ 10 := by rw [List.length_append] at hsz; omega
        have j0 : 0 ≤ (i : Int) - (k : Int) := by omega
        have j1 : (i : Int) - (k : Int) < 1024 := by omega
        have j2 : IntKind.i64.wrap ((i : Int) - (k : Int)) = (i : Int) - (k : Int) := by rw [IntKind.wrap_i64]; omega
        have C2 := Lib.hid c2
        have C3 := Lib.hid c3
        clear c1 c2 c3 c4 C r1 r2 ht e1 e2 hk hr hl ih hsz wl wr o1 o2 hP
        go_enter Tryd.func24, Tryd.ntmps24
        go_wp2_with fail
        refine (HC.out _).mono ?_
        rintro e w1 ⟨rfl, rfl⟩
        go_wp2_with fail
        go_region_law (first
          | (go_simp; go_at_call 24; (with_reducible refine (C2.out _ (HR2.out.oldn HK.out) (HT.out.oldn HK.out)).mono ?_); rintro e w' ⟨v, rfl, ho, hb⟩; have HO := Lib.hid (own_base ho HK.out.be.size); replace HK := Lib.hid (HK.out.after hb); clear hb ho)
          | (go_simp; go_at_call 9; (with_reducible refine (C3.out _ (HR1.out.oldn HK.out) (HT.out.oldn HK.out)).mono ?_); rintro e w' ⟨rfl, hb⟩; replace HK := Lib.hid (HK.out.after hb); replace HO := Lib.hid (own_keep HO.out hb); clear hb)
          | (refine step_append_lies _ (by rfl) _ _ _ (by rfl) w1.heap.size 26 z0 _ 4 16 Tryd.underlying22 hz hz0 hz1 hz2 rfl (by omega) _ P.length (mcs P) (by rfl) (HO.out.alloc _)
              ⟨_, 0, none⟩ 1 1 [.int .u32 x0, .int .u32 x1, .int .u32 x2, .int .u32 x3] (by rfl) (by rfl)
              (World.news_of_block (cs := #[.int .u32 x0, .int .u32 x1, .int .u32 x2, .int .u32 x3]) (t := 26) (fr := (0, 0)) (heap_alloc_new _ _)) (by simp [Value.oneCell'])
              (by omega) (by unfold maxLen; omega) (by omega) (by have := HK.out.be.size; simp; omega) _ rfl ?_; intro gg cap2 w2 hown hgrow hat hlt1))
        all_goals
          have HO2 := Lib.hid hown
          have HB2 := Lib.hid ((HK.out.be.plain.alloc HK.out.be.size (.cells #[.int .u32 x0, .int .u32 x1, .int .u32 x2, .int .u32 x3] 26)).grown hgrow (by have := HK.out.be.size; simp; omega) (fun k hk => (HO.out.lt k hk).1))
          clear hown hgrow hat
          go_wp2_with fail
          go_ret
          refine ⟨_, rfl, ?_, HB2.out⟩
          rw [List.length_append, mcs_snoc]
          exact HO2.out
end Go.Proofs.YtcjclbhkheogpaaDoor
