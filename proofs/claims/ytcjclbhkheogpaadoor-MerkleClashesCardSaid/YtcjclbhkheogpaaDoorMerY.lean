/- The first unlike pairs of two lists with one root: the contract of merkle's clash. -/
import Derived.Test.YtcjclbhkheogpaaDoorMerE
import Derived.Deep.DeepCutAuto
import Derived.Deep.RegionLaw
import Derived.Deep.RegionHeld3
import Derived.Test.YtcjclbhkheogpaaDoorMerQ
import Derived.Test.YtcjclbhkheogpaaDoorMerO
set_option linter.unusedVariables false
namespace Go.Proofs.YtcjclbhkheogpaaDoor
open Go.RowKit

theorem mhv_ok {l : Dl} (h : Oks l) : Ok4 (mhv l).1 ∧ Ok4 (mhv l).2 := ⟨(h.take _).mroot, (h.drop _).mroot⟩
theorem mcl_ok : ∀ (n : Nat) (a b : Dl), a.length = n → Oks a → Oks b → (Ok4 (mcl a b).1.1 ∧ Ok4 (mcl a b).1.2) ∧ (Ok4 (mcl a b).2.1 ∧ Ok4 (mcl a b).2.2) := by
  intro n
  induction n using Nat.strongRecOn with
  | ind n ih =>
    intro a b hn ha hb
    by_cases h1 : mhv a = mhv b
    · by_cases h2 : 2 ≤ a.length
      · have k1 := hf_lt h2
        have k2 := hf_pos a.length
        by_cases h3 : a.take (hf a.length) = b.take (hf a.length)
        · rw [cl_right h2 h1 h3]
          exact ih (a.length - hf a.length) (by omega) _ _ (by rw [List.length_drop]) (ha.drop _) (hb.drop _)
        · rw [cl_left h2 h1 h3]
          exact ih (hf a.length) (by omega) _ _ (by rw [List.length_take]; omega) (ha.take _) (hb.take _)
      · rw [mcl, dif_pos (by omega)]
        exact ⟨mhv_ok ha, mhv_ok hb⟩
    · rw [cl_here h1]
      exact ⟨mhv_ok ha, mhv_ok hb⟩
theorem mcl_form {a b : Dl} (ha : Oks a) (hb : Oks b) : ∃ p0 p1 p2 p3 q0 q1 q2 q3 u0 u1 u2 u3 v0 v1 v2 v3 : Int, mcl a b = (([p0, p1, p2, p3], [q0, q1, q2, q3]), ([u0, u1, u2, u3], [v0, v1, v2, v3])) ∧ Ok4 [p0, p1, p2, p3] ∧ Ok4 [q0, q1, q2, q3] ∧ Ok4 [u0, u1, u2, u3] ∧ Ok4 [v0, v1, v2, v3] := by
  have h := mcl_ok a.length a b rfl ha hb
  obtain ⟨⟨⟨p, q⟩, ⟨u, v⟩⟩, e⟩ : ∃ r, mcl a b = r := ⟨_, rfl⟩
  rw [e] at h ⊢
  obtain ⟨⟨h1, h2⟩, ⟨h3, h4⟩⟩ := h
  obtain ⟨p0, p1, p2, p3, rfl, _⟩ := ok4 h1
  obtain ⟨q0, q1, q2, q3, rfl, _⟩ := ok4 h2
  obtain ⟨u0, u1, u2, u3, rfl, _⟩ := ok4 h3
  obtain ⟨v0, v1, v2, v3, rfl, _⟩ := ok4 h4
  exact ⟨p0, p1, p2, p3, q0, q1, q2, q3, u0, u1, u2, u3, v0, v1, v2, v3, rfl, h1, h2, h3, h4⟩
/-- A pair of digests as a value. -/
def pv (p : Ws × Ws) : Value := ag (p.1 ++ p.2)
/-- What is known of two lists that clash: halves, and what their parts are. -/
theorem clash_parts {n : Nat} {a b : Dl} (ha : a.length = n) (hb : b.length = n) (hne : a ≠ b) (hr : mroot a = mroot b) : 2 ≤ n ∧ (mhv a = mhv b → mroot (a.take (hf n)) = mroot (b.take (hf n)) ∧ mroot (a.drop (hf n)) = mroot (b.drop (hf n)) ∧ (a.take (hf n) = b.take (hf n) → a.drop (hf n) ≠ b.drop (hf n))) := by
  refine ⟨?_, fun h => ?_⟩
  · rcases Nat.lt_or_ge n 2 with h | h
    · exact absurd (small_eq (by omega) (by omega) hr) hne
    · exact h
  · unfold mhv at h
    rw [ha, hb] at h
    injection h with h1 h2
    exact ⟨h1, h2, fun e1 e2 => hne (parts_eq _ e1 e2)⟩
def ClashAt (n : Nat) : Prop := ∀ (a b : Dl) (b1 o1 c1 b2 o2 c2 : Nat) (w : World), a.length = n → b.length = n → a ≠ b → mroot a = mroot b → n ≤ 1024 → n ≤ c1 → c1 ≤ 9223372036854775807 → n ≤ c2 → c2 ≤ 9223372036854775807 → DRow w b1 o1 a → DRow w b2 o2 b → Tabs w →
    Calls Tryd.prog 17 #[.slice (some ⟨b1, o1, none⟩) n c1, .slice (some ⟨b2, o2, none⟩) n c2] w fun e w' => e = .returned (.tuple #[pv (mcl a b).1, pv (mcl a b).2]) ∧ Below w.heap.size w w'
set_option maxRecDepth 100000 in
set_option maxHeartbeats 4000000 in
theorem clash_code : ∀ n, ClashAt n := by
  intro n
  induction n using Nat.strongRecOn with
  | ind n ih =>
    intro a b b1 o1 c1 b2 o2 c2 w ha hb hne hr hn hc1 hm1 hc2 hm2 r1 r2 ht
    obtain ⟨h2, hp⟩ := clash_parts ha hb hne hr
    have k1 := hf_lt h2
    have k2 := hf_pos n
    obtain ⟨x0, x1, x2, x3, e1, _⟩ := ok4 (r1.ok.take (hf n)).mroot
    obtain ⟨y0, y1, y2, y3, e2, _⟩ := ok4 (r1.ok.drop (hf n)).mroot
    obtain ⟨z0, z1, z2, z3, e3, _⟩ := ok4 (r2.ok.take (hf n)).mroot
    obtain ⟨t0, t1, t2, t3, e4, _⟩ := ok4 (r2.ok.drop (hf n)).mroot
    have ea : mhv a = ([x0, x1, x2, x3], [y0, y1, y2, y3]) := by unfold mhv; rw [ha, e1, e2]
    have eb : mhv b = ([z0, z1, z2, z3], [t0, t1, t2, t3]) := by unfold mhv; rw [hb, e3, e4]
    have C1 := Lib.hid (fun w hr ht => halves_step (fun m _ => root_code m) a b1 o1 c1 w ha h2 hn hc1 hm1 hr ht e1 e2)
    have C2 := Lib.hid (fun w hr ht => halves_step (fun m _ => root_code m) b b2 o2 c2 w hb h2 hn hc2 hm2 hr ht e3 e4)
    have q47 := eq47
    have HR1 := Lib.hid r1
    have HR2 := Lib.hid r2
    have HT := Lib.hid ht
    have HK := Lib.hid (((Kx.nil none w).add (w.heap.size) rfl (.cells #[.int .u32 0, .int .u32 0, .int .u32 0, .int .u32 0, .int .u32 0, .int .u32 0, .int .u32 0, .int .u32 0] 27 (0, 0))).add (w.heap.size + 1) (by simp) (.cells #[.int .u32 0, .int .u32 0, .int .u32 0, .int .u32 0, .int .u32 0, .int .u32 0, .int .u32 0, .int .u32 0] 27 (0, 0)))
    by_cases hh : mhv a = mhv b
    · obtain ⟨g1, g2, g3⟩ := hp hh
      have hl := cl_left (a := a) (b := b) (by omega) hh
      have hrr := cl_right (a := a) (b := b) (by omega) hh
      rw [ha] at hl hrr
      have hsm : sameP [x0, x1, x2, x3] [y0, y1, y2, y3] [z0, z1, z2, z3] [t0, t1, t2, t3] = true := by
        rw [ea, eb] at hh
        injection hh with h1 h2
        unfold sameP
        rw [h1, h2, same_self, same_self]; rfl
      have CH := fun w => half_code n w h2 hn
      have CQ := fun w d1 d2 => equal_row b1 o1 c1 b2 o2 c2 (hf n) (a.take (hf n)) (b.take (hf n)) w (by rw [List.length_take]; omega) (by rw [List.length_take]; omega) k2 (by omega) d1 d2
      have cl := fun hx w d1 d2 ht => ih (hf n) k1 (a.take (hf n)) (b.take (hf n)) b1 o1 c1 b2 o2 c2 w (by rw [List.length_take]; omega) (by rw [List.length_take]; omega) hx g1 (by omega) (by omega) hm1 (by omega) hm2 d1 d2 ht
      have cr := fun hx w d1 d2 ht => ih (n - hf n) (by omega) (a.drop (hf n)) (b.drop (hf n)) b1 (o1 + hf n * 4) (c1 - hf n) b2 (o2 + hf n * 4) (c2 - hf n) w (by rw [List.length_drop, ha]) (by rw [List.length_drop, hb]) hx g2 (by omega) (by omega) (by omega) (by omega) (by omega) d1 d2 ht
      have d1 := r1.take (hf n)
      have d2 := r2.take (hf n)
      have d3 := r1.drop (hf n)
      have d4 := r2.drop (hf n)
      obtain ⟨k, hk⟩ : ∃ k, hf n = k := ⟨_, rfl⟩
      rw [hk] at CH CQ cl cr d1 d2 d3 d4 k1 k2 hl hrr g3
      have HC := Lib.hid CH
      have C3 := Lib.hid CQ
      have D1 := Lib.hid d1
      have D2 := Lib.hid d2
      have D3 := Lib.hid d3
      have D4 := Lib.hid d4
      have i0 : ¬ c1 = k := by omega
      have i1 : k ≤ c1 := by omega
      have i2 : k ≤ n := by omega
      have i3 : ¬ c2 = k := by omega
      have i4 : k ≤ c2 := by omega
      by_cases hx : a.take k = b.take k
      · rw [hrr hx]
        have hs : sameL (a.take k) (b.take k) = true := by rw [hx]; exact sameL_yes _
        rw [hs] at C3
        have c5 := cr (g3 hx)
        obtain ⟨p0, p1, p2, p3, q0, q1, q2, q3, u0, u1, u2, u3, v0, v1, v2, v3, em, _⟩ := mcl_form d3.ok d4.ok
        rw [em] at c5 ⊢
        have C5 := Lib.hid (show ∀ w, DRow w b1 (o1 + k * 4) (a.drop k) → DRow w b2 (o2 + k * 4) (b.drop k) → Tabs w → Calls Tryd.prog 17 #[.slice (some ⟨b1, o1 + k * 4, none⟩) (n - k) (c1 - k), .slice (some ⟨b2, o2 + k * 4, none⟩) (n - k) (c2 - k)] w fun e w' => e = .returned (.tuple #[.agg #[.int .u32 p0, .int .u32 p1, .int .u32 p2, .int .u32 p3, .int .u32 q0, .int .u32 q1, .int .u32 q2, .int .u32 q3], .agg #[.int .u32 u0, .int .u32 u1, .int .u32 u2, .int .u32 u3, .int .u32 v0, .int .u32 v1, .int .u32 v2, .int .u32 v3]]) ∧ Below w.heap.size w w' from c5)
        show Calls _ _ _ _ fun e w' => e = .returned (.tuple #[.agg #[.int .u32 p0, .int .u32 p1, .int .u32 p2, .int .u32 p3, .int .u32 q0, .int .u32 q1, .int .u32 q2, .int .u32 q3], .agg #[.int .u32 u0, .int .u32 u1, .int .u32 u2, .int .u32 u3, .int .u32 v0, .int .u32 v1, .int .u32 v2, .int .u32 v3]]) ∧ _
        clear ih CH CQ cl cr c5 d1 d2 d3 d4 r1 r2 ht e1 e2 e3 e4 ea eb hh hl hrr g1 g2 g3 hx hs em hk hp hr hne ha hb
        go_enter Tryd.func17, Tryd.ntmps17
        go_wp2_with fail
        refine (C1.out _ (HR1.out.oldn HK.out) (HT.out.oldn HK.out)).mono ?_
        rintro e w1 ⟨rfl, hb⟩
        replace HK := Lib.hid (HK.out.after hb)
        clear hb
        go_wp2_with fail
        refine (C2.out _ (HR2.out.oldn HK.out) (HT.out.oldn HK.out)).mono ?_
        rintro e w2 ⟨rfl, hb⟩
        replace HK := Lib.hid (HK.out.after hb)
        clear hb
        obtain ⟨a0, a1, a2, a3, a4, a5, a6, a7, d0, d1, d2, d3, d4, d5, d6, d7⟩ := cells8 (HK.out.at 0 rfl)
        obtain ⟨m0, m1, m2, m3, m4, m5, m6, m7, n0, n1, n2, n3, n4, n5, n6, n7⟩ := cells8 (HK.out.at 1 rfl)
        replace HK := Lib.hid ((HK.out.put8 0 rfl (.inr (Nat.le_refl _)) (.int .u32 x0) (.int .u32 x1) (.int .u32 x2) (.int .u32 x3) (.int .u32 y0) (.int .u32 y1) (.int .u32 y2) (.int .u32 y3)).put8 1 rfl (.inr (Nat.le_succ _)) (.int .u32 z0) (.int .u32 z1) (.int .u32 z2) (.int .u32 z3) (.int .u32 t0) (.int .u32 t1) (.int .u32 t2) (.int .u32 t3))
        go_wp2_with fail
        refine (HC.out _).mono ?_
        rintro e w3 ⟨rfl, rfl⟩
        go_wp2_with fail
        replace HK := Lib.hid HK.out.drew
        go_region_held3 (fun _ => True) (exact trivial)
          (first
            | (go_at_call 16; with_reducible refine (C3.out _ (D1.out.oldn HK.out) (D2.out.oldn HK.out)).mono ?_; rintro e w' ⟨rfl, hb⟩; replace HK := Lib.hid (HK.out.after hb).drew; clear hb))
        go_wp2_with fail
        go_region_law (first
          | (go_simp; go_at_call 17; (with_reducible refine (C5.out _ (D3.out.oldn HK.out) (D4.out.oldn HK.out) (HT.out.oldn HK.out)).mono ?_); rintro e w' ⟨rfl, hb⟩; replace HK := Lib.hid (HK.out.after hb); clear hb; obtain ⟨a0, a1, a2, a3, a4, a5, a6, a7, d0, d1, d2, d3, d4, d5, d6, d7⟩ := cells8 (HK.out.at 0 rfl); obtain ⟨m0, m1, m2, m3, m4, m5, m6, m7, n0, n1, n2, n3, n4, n5, n6, n7⟩ := cells8 (HK.out.at 1 rfl)))
        all_goals
          have HR := Lib.hid ((HK.out.put8 0 rfl (.inr (Nat.le_refl _)) (.int .u32 p0) (.int .u32 p1) (.int .u32 p2) (.int .u32 p3) (.int .u32 q0) (.int .u32 q1) (.int .u32 q2) (.int .u32 q3)).put8 1 rfl (.inr (Nat.le_succ _)) (.int .u32 u0) (.int .u32 u1) (.int .u32 u2) (.int .u32 u3) (.int .u32 v0) (.int .u32 v1) (.int .u32 v2) (.int .u32 v3))
          go_wp2_with fail
          exact bodyPost_ret (v := .tuple #[.agg #[.int .u32 p0, .int .u32 p1, .int .u32 p2, .int .u32 p3, .int .u32 q0, .int .u32 q1, .int .u32 q2, .int .u32 q3], .agg #[.int .u32 u0, .int .u32 u1, .int .u32 u2, .int .u32 u3, .int .u32 v0, .int .u32 v1, .int .u32 v2, .int .u32 v3]]) (by
          obtain ⟨k0, k1, k2, k3, k4, k5, k6, k7, _⟩ := cells8 (HR.out.at 0 rfl)
          obtain ⟨l0, l1, l2, l3, l4, l5, l6, l7, _⟩ := cells8 (HR.out.at 1 rfl)
          simp [results, go_sem, k0, k1, k2, k3, k4, k5, k6, k7, l0, l1, l2, l3, l4, l5, l6, l7]) rfl ⟨rfl, HR.out.be.plain⟩
      · rw [hl hx]
        have hs : sameL (a.take k) (b.take k) = false := sameL_no hx
        rw [hs] at C3
        have c5 := cl hx
        obtain ⟨p0, p1, p2, p3, q0, q1, q2, q3, u0, u1, u2, u3, v0, v1, v2, v3, em, _⟩ := mcl_form d1.ok d2.ok
        rw [em] at c5 ⊢
        have C5 := Lib.hid (show ∀ w, DRow w b1 o1 (a.take k) → DRow w b2 o2 (b.take k) → Tabs w → Calls Tryd.prog 17 #[.slice (some ⟨b1, o1, none⟩) k c1, .slice (some ⟨b2, o2, none⟩) k c2] w fun e w' => e = .returned (.tuple #[.agg #[.int .u32 p0, .int .u32 p1, .int .u32 p2, .int .u32 p3, .int .u32 q0, .int .u32 q1, .int .u32 q2, .int .u32 q3], .agg #[.int .u32 u0, .int .u32 u1, .int .u32 u2, .int .u32 u3, .int .u32 v0, .int .u32 v1, .int .u32 v2, .int .u32 v3]]) ∧ Below w.heap.size w w' from c5)
        show Calls _ _ _ _ fun e w' => e = .returned (.tuple #[.agg #[.int .u32 p0, .int .u32 p1, .int .u32 p2, .int .u32 p3, .int .u32 q0, .int .u32 q1, .int .u32 q2, .int .u32 q3], .agg #[.int .u32 u0, .int .u32 u1, .int .u32 u2, .int .u32 u3, .int .u32 v0, .int .u32 v1, .int .u32 v2, .int .u32 v3]]) ∧ _
        clear ih CH CQ cl cr c5 d1 d2 d3 d4 r1 r2 ht e1 e2 e3 e4 ea eb hh hl hrr g1 g2 g3 hx hs em hk hp hr hne ha hb
        go_enter Tryd.func17, Tryd.ntmps17
        go_wp2_with fail
        refine (C1.out _ (HR1.out.oldn HK.out) (HT.out.oldn HK.out)).mono ?_
        rintro e w1 ⟨rfl, hb⟩
        replace HK := Lib.hid (HK.out.after hb)
        clear hb
        go_wp2_with fail
        refine (C2.out _ (HR2.out.oldn HK.out) (HT.out.oldn HK.out)).mono ?_
        rintro e w2 ⟨rfl, hb⟩
        replace HK := Lib.hid (HK.out.after hb)
        clear hb
        obtain ⟨a0, a1, a2, a3, a4, a5, a6, a7, d0, d1, d2, d3, d4, d5, d6, d7⟩ := cells8 (HK.out.at 0 rfl)
        obtain ⟨m0, m1, m2, m3, m4, m5, m6, m7, n0, n1, n2, n3, n4, n5, n6, n7⟩ := cells8 (HK.out.at 1 rfl)
        replace HK := Lib.hid ((HK.out.put8 0 rfl (.inr (Nat.le_refl _)) (.int .u32 x0) (.int .u32 x1) (.int .u32 x2) (.int .u32 x3) (.int .u32 y0) (.int .u32 y1) (.int .u32 y2) (.int .u32 y3)).put8 1 rfl (.inr (Nat.le_succ _)) (.int .u32 z0) (.int .u32 z1) (.int .u32 z2) (.int .u32 z3) (.int .u32 t0) (.int .u32 t1) (.int .u32 t2) (.int .u32 t3))
        go_wp2_with fail
        refine (HC.out _).mono ?_
        rintro e w3 ⟨rfl, rfl⟩
        go_wp2_with fail
        replace HK := Lib.hid HK.out.drew
        go_region_held3 (fun _ => True) (exact trivial)
          (first
            | (go_at_call 16; with_reducible refine (C3.out _ (D1.out.oldn HK.out) (D2.out.oldn HK.out)).mono ?_; rintro e w' ⟨rfl, hb⟩; replace HK := Lib.hid (HK.out.after hb).drew; clear hb))
        go_wp2_with fail
        go_region_law (first
          | (go_simp; go_at_call 17; (with_reducible refine (C5.out _ (D1.out.oldn HK.out) (D2.out.oldn HK.out) (HT.out.oldn HK.out)).mono ?_); rintro e w' ⟨rfl, hb⟩; replace HK := Lib.hid (HK.out.after hb); clear hb; obtain ⟨a0, a1, a2, a3, a4, a5, a6, a7, d0, d1, d2, d3, d4, d5, d6, d7⟩ := cells8 (HK.out.at 0 rfl); obtain ⟨m0, m1, m2, m3, m4, m5, m6, m7, n0, n1, n2, n3, n4, n5, n6, n7⟩ := cells8 (HK.out.at 1 rfl)))
        all_goals
          have HR := Lib.hid ((HK.out.put8 0 rfl (.inr (Nat.le_refl _)) (.int .u32 p0) (.int .u32 p1) (.int .u32 p2) (.int .u32 p3) (.int .u32 q0) (.int .u32 q1) (.int .u32 q2) (.int .u32 q3)).put8 1 rfl (.inr (Nat.le_succ _)) (.int .u32 u0) (.int .u32 u1) (.int .u32 u2) (.int .u32 u3) (.int .u32 v0) (.int .u32 v1) (.int .u32 v2) (.int .u32 v3))
          go_wp2_with fail
          exact bodyPost_ret (v := .tuple #[.agg #[.int .u32 p0, .int .u32 p1, .int .u32 p2, .int .u32 p3, .int .u32 q0, .int .u32 q1, .int .u32 q2, .int .u32 q3], .agg #[.int .u32 u0, .int .u32 u1, .int .u32 u2, .int .u32 u3, .int .u32 v0, .int .u32 v1, .int .u32 v2, .int .u32 v3]]) (by
          obtain ⟨k0, k1, k2, k3, k4, k5, k6, k7, _⟩ := cells8 (HR.out.at 0 rfl)
          obtain ⟨l0, l1, l2, l3, l4, l5, l6, l7, _⟩ := cells8 (HR.out.at 1 rfl)
          simp [results, go_sem, k0, k1, k2, k3, k4, k5, k6, k7, l0, l1, l2, l3, l4, l5, l6, l7]) rfl ⟨rfl, HR.out.be.plain⟩
    · rw [cl_here hh, ea, eb]
      have hsm : sameP [x0, x1, x2, x3] [y0, y1, y2, y3] [z0, z1, z2, z3] [t0, t1, t2, t3] = false := by
        rw [ea, eb] at hh
        unfold sameP
        by_cases h1 : [x0, x1, x2, x3] = [z0, z1, z2, z3]
        · have h2 : ¬ [y0, y1, y2, y3] = [t0, t1, t2, t3] := fun h => hh (by rw [h1, h])
          rw [same_no h2, Bool.and_false]
        · rw [same_no h1, Bool.false_and]
      show Calls _ _ _ _ fun e w' => e = .returned (.tuple #[.agg #[.int .u32 x0, .int .u32 x1, .int .u32 x2, .int .u32 x3, .int .u32 y0, .int .u32 y1, .int .u32 y2, .int .u32 y3], .agg #[.int .u32 z0, .int .u32 z1, .int .u32 z2, .int .u32 z3, .int .u32 t0, .int .u32 t1, .int .u32 t2, .int .u32 t3]]) ∧ _
      clear ih r1 r2 ht e1 e2 e3 e4 ea eb hh hp hr hne ha hb
      go_enter Tryd.func17, Tryd.ntmps17
      go_wp2_with fail
      refine (C1.out _ (HR1.out.oldn HK.out) (HT.out.oldn HK.out)).mono ?_
      rintro e w1 ⟨rfl, hb⟩
      replace HK := Lib.hid (HK.out.after hb)
      clear hb
      go_wp2_with fail
      refine (C2.out _ (HR2.out.oldn HK.out) (HT.out.oldn HK.out)).mono ?_
      rintro e w2 ⟨rfl, hb⟩
      replace HK := Lib.hid (HK.out.after hb)
      clear hb
      obtain ⟨a0, a1, a2, a3, a4, a5, a6, a7, d0, d1, d2, d3, d4, d5, d6, d7⟩ := cells8 (HK.out.at 0 rfl)
      obtain ⟨m0, m1, m2, m3, m4, m5, m6, m7, n0, n1, n2, n3, n4, n5, n6, n7⟩ := cells8 (HK.out.at 1 rfl)
      replace HK := Lib.hid ((HK.out.put8 0 rfl (.inr (Nat.le_refl _)) (.int .u32 x0) (.int .u32 x1) (.int .u32 x2) (.int .u32 x3) (.int .u32 y0) (.int .u32 y1) (.int .u32 y2) (.int .u32 y3)).put8 1 rfl (.inr (Nat.le_succ _)) (.int .u32 z0) (.int .u32 z1) (.int .u32 z2) (.int .u32 z3) (.int .u32 t0) (.int .u32 t1) (.int .u32 t2) (.int .u32 t3))
      go_wp2_with fail
      obtain ⟨a0, a1, a2, a3, a4, a5, a6, a7, d0, d1, d2, d3, d4, d5, d6, d7⟩ := cells8 (HK.out.at 0 rfl)
      obtain ⟨m0, m1, m2, m3, m4, m5, m6, m7, n0, n1, n2, n3, n4, n5, n6, n7⟩ := cells8 (HK.out.at 1 rfl)
      have HR := Lib.hid ((HK.out.put8 0 rfl (.inr (Nat.le_refl _)) (.int .u32 x0) (.int .u32 x1) (.int .u32 x2) (.int .u32 x3) (.int .u32 y0) (.int .u32 y1) (.int .u32 y2) (.int .u32 y3)).put8 1 rfl (.inr (Nat.le_succ _)) (.int .u32 z0) (.int .u32 z1) (.int .u32 z2) (.int .u32 z3) (.int .u32 t0) (.int .u32 t1) (.int .u32 t2) (.int .u32 t3)).drew
      go_region
      all_goals
        go_wp2_with fail
        exact bodyPost_ret (v := .tuple #[.agg #[.int .u32 x0, .int .u32 x1, .int .u32 x2, .int .u32 x3, .int .u32 y0, .int .u32 y1, .int .u32 y2, .int .u32 y3], .agg #[.int .u32 z0, .int .u32 z1, .int .u32 z2, .int .u32 z3, .int .u32 t0, .int .u32 t1, .int .u32 t2, .int .u32 t3]]) (by
          obtain ⟨k0, k1, k2, k3, k4, k5, k6, k7, _⟩ := cells8 (HR.out.at 0 rfl)
          obtain ⟨l0, l1, l2, l3, l4, l5, l6, l7, _⟩ := cells8 (HR.out.at 1 rfl)
          simp [results, go_sem, k0, k1, k2, k3, k4, k5, k6, k7, l0, l1, l2, l3, l4, l5, l6, l7]) rfl ⟨rfl, HR.out.be.plain⟩
end Go.Proofs.YtcjclbhkheogpaaDoor
