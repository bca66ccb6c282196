/- The clash of two lists: the contract of the reference's Clash. -/
import Derived.Test.YtcjclbhkheogpaaDoorMerY
import Derived.Test.YtcjclbhkheogpaaDoorMerL
import Derived.Deep.DeepCutAuto
set_option linter.unusedVariables false
namespace Go.Proofs.YtcjclbhkheogpaaDoor
open Go.RowKit

set_option maxRecDepth 100000 in
set_option maxHeartbeats 4000000 in
theorem clashr_len {A B : Option Addr} {n m c1 c2 : Nat} (w : World) (hne : n ≠ m) :
    Calls Tryd.prog 7 #[.slice A n c1, .slice B m c2] w fun e w' => e = .returned (.tuple #[.agg #[.int .u32 0, .int .u32 0, .int .u32 0, .int .u32 0, .int .u32 0, .int .u32 0, .int .u32 0, .int .u32 0], .agg #[.int .u32 0, .int .u32 0, .int .u32 0, .int .u32 0, .int .u32 0, .int .u32 0, .int .u32 0, .int .u32 0], .bool false]) ∧ Below w.heap.size w w' := by
  have i0 : ((n : Int) != (m : Int)) = true := by rw [bne_iff_ne]; omega
  have i1 : (n != m) = true := by rw [bne_iff_ne]; omega
  have i2 : ((n : Int) == (m : Int)) = false := by rw [beq_eq_false_iff_ne]; omega
  have i3 : (n == m) = false := by rw [beq_eq_false_iff_ne]; omega
  have HK := Lib.hid (((Kx.nil none w).add (w.heap.size) rfl (.cells #[.int .u32 0, .int .u32 0, .int .u32 0, .int .u32 0, .int .u32 0, .int .u32 0, .int .u32 0, .int .u32 0] 27 (0, 0))).add (w.heap.size + 1) (by simp) (.cells #[.int .u32 0, .int .u32 0, .int .u32 0, .int .u32 0, .int .u32 0, .int .u32 0, .int .u32 0, .int .u32 0] 27 (0, 0)))
  have HR := HK
  clear hne
  go_enter Tryd.func7, Tryd.ntmps7
  go_wp2_with fail
  exact bodyPost_ret (v := .tuple #[.agg #[.int .u32 0, .int .u32 0, .int .u32 0, .int .u32 0, .int .u32 0, .int .u32 0, .int .u32 0, .int .u32 0], .agg #[.int .u32 0, .int .u32 0, .int .u32 0, .int .u32 0, .int .u32 0, .int .u32 0, .int .u32 0, .int .u32 0], .bool false]) (by
    obtain ⟨k0, k1, k2, k3, k4, k5, k6, k7, _⟩ := cells8 (HR.out.at 0 rfl)
    obtain ⟨l0, l1, l2, l3, l4, l5, l6, l7, _⟩ := cells8 (HR.out.at 1 rfl)
    simp [results, go_sem, k0, k1, k2, k3, k4, k5, k6, k7, l0, l1, l2, l3, l4, l5, l6, l7]) rfl ⟨rfl, HR.out.be.plain⟩
set_option maxRecDepth 100000 in
set_option maxHeartbeats 4000000 in
theorem clashr_eq {A B : Option Addr} {n c1 c2 : Nat} {a b : Dl} (w : World) (ha : a.length = n) (hb : b.length = n) (hn : n ≤ 1024) (he : a = b) (d1 : Dd w A a) (d2 : Dd w B b) :
    Calls Tryd.prog 7 #[.slice A n c1, .slice B n c2] w fun e w' => e = .returned (.tuple #[.agg #[.int .u32 0, .int .u32 0, .int .u32 0, .int .u32 0, .int .u32 0, .int .u32 0, .int .u32 0, .int .u32 0], .agg #[.int .u32 0, .int .u32 0, .int .u32 0, .int .u32 0, .int .u32 0, .int .u32 0, .int .u32 0, .int .u32 0], .bool false]) ∧ Below w.heap.size w w' := by
  have c := fun w d1 d2 => samer (A := A) (B := B) (c1 := c1) (c2 := c2) w ha hb hn d1 d2
  have hs : sameL a b = true := by rw [he]; exact sameL_yes _
  rw [hs] at c
  have C1 := Lib.hid c
  have D1 := Lib.hid d1
  have D2 := Lib.hid d2
  have HK := Lib.hid (((Kx.nil none w).add (w.heap.size) rfl (.cells #[.int .u32 0, .int .u32 0, .int .u32 0, .int .u32 0, .int .u32 0, .int .u32 0, .int .u32 0, .int .u32 0] 27 (0, 0))).add (w.heap.size + 1) (by simp) (.cells #[.int .u32 0, .int .u32 0, .int .u32 0, .int .u32 0, .int .u32 0, .int .u32 0, .int .u32 0, .int .u32 0] 27 (0, 0)))
  clear hs c d1 d2 ha hb he
  go_enter Tryd.func7, Tryd.ntmps7
  go_wp2_with fail
  refine (C1.out _ (D1.out.kept HK.out.be.plain) (D2.out.kept HK.out.be.plain)).mono ?_
  rintro e w1 ⟨rfl, hb⟩
  replace HK := Lib.hid (HK.out.after hb)
  clear hb
  obtain ⟨a0, a1, a2, a3, a4, a5, a6, a7, d0, d1, d2, d3, d4, d5, d6, d7⟩ := cells8 (HK.out.at 0 rfl)
  obtain ⟨m0, m1, m2, m3, m4, m5, m6, m7, n0, n1, n2, n3, n4, n5, n6, n7⟩ := cells8 (HK.out.at 1 rfl)
  have HR := Lib.hid ((HK.out.put8 0 rfl (.inr (Nat.le_refl _)) (.int .u32 0) (.int .u32 0) (.int .u32 0) (.int .u32 0) (.int .u32 0) (.int .u32 0) (.int .u32 0) (.int .u32 0)).put8 1 rfl (.inr (Nat.le_succ _)) (.int .u32 0) (.int .u32 0) (.int .u32 0) (.int .u32 0) (.int .u32 0) (.int .u32 0) (.int .u32 0) (.int .u32 0))
  go_wp2_with fail
  exact bodyPost_ret (v := .tuple #[.agg #[.int .u32 0, .int .u32 0, .int .u32 0, .int .u32 0, .int .u32 0, .int .u32 0, .int .u32 0, .int .u32 0], .agg #[.int .u32 0, .int .u32 0, .int .u32 0, .int .u32 0, .int .u32 0, .int .u32 0, .int .u32 0, .int .u32 0], .bool false]) (by
    obtain ⟨k0, k1, k2, k3, k4, k5, k6, k7, _⟩ := cells8 (HR.out.at 0 rfl)
    obtain ⟨l0, l1, l2, l3, l4, l5, l6, l7, _⟩ := cells8 (HR.out.at 1 rfl)
    simp [results, go_sem, k0, k1, k2, k3, k4, k5, k6, k7, l0, l1, l2, l3, l4, l5, l6, l7]) rfl ⟨rfl, HR.out.be.plain⟩
set_option maxRecDepth 100000 in
set_option maxHeartbeats 4000000 in
theorem clashr_roots {A B : Option Addr} {n c1 c2 : Nat} {a b : Dl} (w : World) (ha : a.length = n) (hb : b.length = n) (hn : n ≤ 1024) (hc1 : n ≤ c1) (hm1 : c1 ≤ 9223372036854775807) (hc2 : n ≤ c2) (hm2 : c2 ≤ 9223372036854775807) (hne : a ≠ b) (hr : mroot a ≠ mroot b) (d1 : Dd w A a) (d2 : Dd w B b) (ht : Tabs w) :
    Calls Tryd.prog 7 #[.slice A n c1, .slice B n c2] w fun e w' => e = .returned (.tuple #[.agg #[.int .u32 0, .int .u32 0, .int .u32 0, .int .u32 0, .int .u32 0, .int .u32 0, .int .u32 0, .int .u32 0], .agg #[.int .u32 0, .int .u32 0, .int .u32 0, .int .u32 0, .int .u32 0, .int .u32 0, .int .u32 0, .int .u32 0], .bool false]) ∧ Below w.heap.size w w' := by
  have c := fun w d1 d2 => samer (A := A) (B := B) (c1 := c1) (c2 := c2) w ha hb hn d1 d2
  rw [sameL_no hne] at c
  have r1 := fun w => rootr_any (A := A) (cap := c1) w ha hn hc1 hm1
  have r2 := fun w => rootr_any (A := B) (cap := c2) w hb hn hc2 hm2
  obtain ⟨x0, x1, x2, x3, e1, _⟩ := ok4 d1.1.mroot
  obtain ⟨y0, y1, y2, y3, e2, _⟩ := ok4 d2.1.mroot
  rw [e1, e2] at hr
  have s1 := same_no hr
  rw [e1, ag4] at r1
  rw [e2, ag4] at r2
  have q4 := eq4s
  have C1 := Lib.hid c
  have R1 := Lib.hid r1
  have R2 := Lib.hid r2
  have D1 := Lib.hid d1
  have D2 := Lib.hid d2
  have HT := Lib.hid ht
  have HK := Lib.hid (((Kx.nil none w).add (w.heap.size) rfl (.cells #[.int .u32 0, .int .u32 0, .int .u32 0, .int .u32 0, .int .u32 0, .int .u32 0, .int .u32 0, .int .u32 0] 27 (0, 0))).add (w.heap.size + 1) (by simp) (.cells #[.int .u32 0, .int .u32 0, .int .u32 0, .int .u32 0, .int .u32 0, .int .u32 0, .int .u32 0, .int .u32 0] 27 (0, 0)))
  clear c r1 r2 d1 d2 ha hb hne hr e1 e2 ht
  go_enter Tryd.func7, Tryd.ntmps7
  go_wp2_with fail
  refine (C1.out _ (D1.out.kept HK.out.be.plain) (D2.out.kept HK.out.be.plain)).mono ?_
  rintro e w1 ⟨rfl, hb⟩
  replace HK := Lib.hid (HK.out.after hb)
  clear hb
  go_wp2_with fail
  refine (R1.out _ (D1.out.kept HK.out.be.plain) (HT.out.oldn HK.out)).mono ?_
  rintro e w2 ⟨rfl, hb⟩
  replace HK := Lib.hid (HK.out.after hb)
  clear hb
  go_wp2_with fail
  refine (R2.out _ (D2.out.kept HK.out.be.plain) (HT.out.oldn HK.out)).mono ?_
  rintro e w3 ⟨rfl, hb⟩
  replace HK := Lib.hid (HK.out.after hb)
  clear hb
  obtain ⟨a0, a1, a2, a3, a4, a5, a6, a7, d0, d1, d2, d3, d4, d5, d6, d7⟩ := cells8 (HK.out.at 0 rfl)
  obtain ⟨m0, m1, m2, m3, m4, m5, m6, m7, n0, n1, n2, n3, n4, n5, n6, n7⟩ := cells8 (HK.out.at 1 rfl)
  have HR := Lib.hid ((HK.out.put8 0 rfl (.inr (Nat.le_refl _)) (.int .u32 0) (.int .u32 0) (.int .u32 0) (.int .u32 0) (.int .u32 0) (.int .u32 0) (.int .u32 0) (.int .u32 0)).put8 1 rfl (.inr (Nat.le_succ _)) (.int .u32 0) (.int .u32 0) (.int .u32 0) (.int .u32 0) (.int .u32 0) (.int .u32 0) (.int .u32 0) (.int .u32 0))
  go_wp2_with fail
  exact bodyPost_ret (v := .tuple #[.agg #[.int .u32 0, .int .u32 0, .int .u32 0, .int .u32 0, .int .u32 0, .int .u32 0, .int .u32 0, .int .u32 0], .agg #[.int .u32 0, .int .u32 0, .int .u32 0, .int .u32 0, .int .u32 0, .int .u32 0, .int .u32 0, .int .u32 0], .bool false]) (by
    obtain ⟨k0, k1, k2, k3, k4, k5, k6, k7, _⟩ := cells8 (HR.out.at 0 rfl)
    obtain ⟨l0, l1, l2, l3, l4, l5, l6, l7, _⟩ := cells8 (HR.out.at 1 rfl)
    simp [results, go_sem, k0, k1, k2, k3, k4, k5, k6, k7, l0, l1, l2, l3, l4, l5, l6, l7]) rfl ⟨rfl, HR.out.be.plain⟩
theorem kx4_ne {w W : World} {n0 n1 g h : Nat} {B0 B1 B2 B3 : Obj} (hk : Kx none w W [(n0, B0), (n1, B1), (g, B2), (h, B3)]) : n0 ≠ n1 ∧ n0 ≠ g ∧ n0 ≠ h ∧ n1 ≠ g ∧ n1 ≠ h ∧ g ≠ h := by
  have := hk.nd
  simp at this
  omega
def ClashRAt (n : Nat) : Prop := ∀ (a b : Dl) (b1 o1 c1 b2 o2 c2 : Nat) (w : World), a.length = n → b.length = n → a ≠ b → mroot a = mroot b → n ≤ 1024 → n ≤ c1 → c1 ≤ 9223372036854775807 → n ≤ c2 → c2 ≤ 9223372036854775807 → DRow w b1 o1 a → DRow w b2 o2 b → Tabs w →
    Calls Tryd.prog 7 #[.slice (some ⟨b1, o1, none⟩) n c1, .slice (some ⟨b2, o2, none⟩) n c2] w fun e w' => e = .returned (.tuple #[pv (mcl a b).1, pv (mcl a b).2, .bool true]) ∧ Below w.heap.size w w'
set_option maxRecDepth 100000 in
set_option maxHeartbeats 16000000 in
theorem clash_ref : ∀ n, ClashRAt n := by
  intro n
  induction n using Nat.strongRecOn with
  | ind n ih =>
    intro a b b1 o1 c1 b2 o2 c2 w ha hb hne hr hn hc1 hm1 hc2 hm2 r1 r2 ht
    obtain ⟨h2, hp⟩ := clash_parts ha hb hne hr
    have k1 := hf_lt h2
    have k2 := hf_pos n
    obtain ⟨s0', s1', s2', s3', e0, _⟩ := ok4 r1.ok.mroot
    obtain ⟨x0, x1, x2, x3, e1, _⟩ := ok4 (r1.ok.take (hf n)).mroot
    obtain ⟨y0, y1, y2, y3, e2, _⟩ := ok4 (r1.ok.drop (hf n)).mroot
    obtain ⟨z0, z1, z2, z3, e3, _⟩ := ok4 (r2.ok.take (hf n)).mroot
    obtain ⟨t0, t1, t2, t3, e4, _⟩ := ok4 (r2.ok.drop (hf n)).mroot
    have ea : mhv a = ([x0, x1, x2, x3], [y0, y1, y2, y3]) := by unfold mhv; rw [ha, e1, e2]
    have eb : mhv b = ([z0, z1, z2, z3], [t0, t1, t2, t3]) := by unfold mhv; rw [hb, e3, e4]
    have c := fun w d1 d2 => samer_row b1 o1 c1 b2 o2 c2 n a b w ha hb (by omega) hn d1 d2
    rw [sameL_no hne] at c
    have g1 := fun w => rootr_any (A := some ⟨b1, o1, none⟩) (cap := c1) w ha hn hc1 hm1
    have g2 := fun w => rootr_any (A := some ⟨b2, o2, none⟩) (cap := c2) w hb hn hc2 hm2
    rw [e0, ag4] at g1
    rw [← hr, e0, ag4] at g2
    have ca := fun w => root_ref (hf n) (a.take (hf n)) b1 o1 c1 w (by rw [List.length_take]; omega) k2 (by omega) (by omega) hm1
    have cb := fun w => root_ref (n - hf n) (a.drop (hf n)) b1 (o1 + hf n * 4) (c1 - hf n) w (by rw [List.length_drop, ha]) (by omega) (by omega) (by omega) (by omega)
    have cc := fun w => root_ref (hf n) (b.take (hf n)) b2 o2 c2 w (by rw [List.length_take]; omega) k2 (by omega) (by omega) hm2
    have cd := fun w => root_ref (n - hf n) (b.drop (hf n)) b2 (o2 + hf n * 4) (c2 - hf n) w (by rw [List.length_drop, hb]) (by omega) (by omega) (by omega) (by omega)
    rw [e1, ag4] at ca
    rw [e2, ag4] at cb
    rw [e3, ag4] at cc
    rw [e4, ag4] at cd
    have ch := fun w => half_ref n w h2 (by omega)
    have cq := fun w d1 d2 => samer_row b1 o1 c1 b2 o2 c2 (hf n) (a.take (hf n)) (b.take (hf n)) w (by rw [List.length_take]; omega) (by rw [List.length_take]; omega) k2 (by omega) d1 d2
    have cl := fun g hx w d1 d2 ht => ih (hf n) k1 (a.take (hf n)) (b.take (hf n)) b1 o1 c1 b2 o2 c2 w (by rw [List.length_take]; omega) (by rw [List.length_take]; omega) hx g (by omega) (by omega) hm1 (by omega) hm2 d1 d2 ht
    have cr := fun g hx w d1 d2 ht => ih (n - hf n) (by omega) (a.drop (hf n)) (b.drop (hf n)) b1 (o1 + hf n * 4) (c1 - hf n) b2 (o2 + hf n * 4) (c2 - hf n) w (by rw [List.length_drop, ha]) (by rw [List.length_drop, hb]) hx g (by omega) (by omega) (by omega) (by omega) (by omega) d1 d2 ht
    have hl := cl_left (a := a) (b := b) (by omega)
    have hrr := cl_right (a := a) (b := b) (by omega)
    rw [ha] at hl hrr
    have d1 := r1.take (hf n)
    have d2 := r2.take (hf n)
    have d3 := r1.drop (hf n)
    have d4 := r2.drop (hf n)
    have q47 := eq47
    have q4 := eq4s
    have s0 := same_self
    obtain ⟨k, hk⟩ : ∃ k, hf n = k := ⟨_, rfl⟩
    rw [hk] at ca cb cc cd ch cq cl cr d1 d2 d3 d4 k1 k2 hl hrr hp
    have C1 := Lib.hid c
    have R1 := Lib.hid g1
    have R2 := Lib.hid g2
    have CX := Lib.hid ca
    have CY := Lib.hid cb
    have CZ := Lib.hid cc
    have CT := Lib.hid cd
    have CH := Lib.hid ch
    have CQ := Lib.hid cq
    have CL := Lib.hid cl
    have CR := Lib.hid cr
    have HR1 := Lib.hid r1
    have HR2 := Lib.hid r2
    have HA1 := Lib.hid d1
    have HA2 := Lib.hid d3
    have HB1 := Lib.hid d2
    have HB2 := Lib.hid d4
    have HT := Lib.hid ht
    have HP := Lib.hid hp
    have HL := Lib.hid hl
    have HRR := Lib.hid hrr
    have EA := Lib.hid ea
    have EB := Lib.hid eb
    have HK := Lib.hid (((Kx.nil none w).add (w.heap.size) rfl (.cells #[.int .u32 0, .int .u32 0, .int .u32 0, .int .u32 0, .int .u32 0, .int .u32 0, .int .u32 0, .int .u32 0] 27 (0, 0))).add (w.heap.size + 1) (by simp) (.cells #[.int .u32 0, .int .u32 0, .int .u32 0, .int .u32 0, .int .u32 0, .int .u32 0, .int .u32 0, .int .u32 0] 27 (0, 0)))
    have i0 : ¬ c1 = k := by omega
    have i1 : k ≤ c1 := by omega
    have i2 : k ≤ n := by omega
    have i3 : ¬ c2 = k := by omega
    have i4 : k ≤ c2 := by omega
    obtain ⟨rr, hrr2⟩ : ∃ rr, Value.tuple #[pv (mcl a b).1, pv (mcl a b).2, .bool true] = rr := ⟨_, rfl⟩
    rw [hrr2]
    have HRES := Lib.hid hrr2
    clear ih c g1 g2 ca cb cc cd ch cq cl cr hl hrr d1 d2 d3 d4 r1 r2 ht hp hne hr ha hb e0 e1 e2 e3 e4 ea eb hk hrr2
    go_enter Tryd.func7, Tryd.ntmps7
    go_wp2_with fail
    refine (C1.out _ (HR1.out.oldn HK.out) (HR2.out.oldn HK.out)).mono ?_
    rintro e w1 ⟨rfl, hb⟩
    replace HK := Lib.hid (HK.out.after hb)
    clear hb
    go_wp2_with fail
    refine (R1.out _ (Dd.row (HR1.out.oldn HK.out)) (HT.out.oldn HK.out)).mono ?_
    rintro e w2 ⟨rfl, hb⟩
    replace HK := Lib.hid (HK.out.after hb)
    clear hb
    go_wp2_with fail
    refine (R2.out _ (Dd.row (HR2.out.oldn HK.out)) (HT.out.oldn HK.out)).mono ?_
    rintro e w3 ⟨rfl, hb⟩
    replace HK := Lib.hid (HK.out.after hb)
    clear hb
    go_wp2_with fail
    refine (CH.out _).mono ?_
    rintro e w4 ⟨rfl, rfl⟩
    go_upto_region 4 with fail
    go_cut [8] (fun s8 wx => ∃ g : Nat, s8 = .pointer (some ⟨g, 0, none⟩) ∧ Hid (Kx none w wx [(w.heap.size, .cells #[.int .u32 0, .int .u32 0, .int .u32 0, .int .u32 0, .int .u32 0, .int .u32 0, .int .u32 0, .int .u32 0] 27 (0, 0)), (w.heap.size + 1, .cells #[.int .u32 0, .int .u32 0, .int .u32 0, .int .u32 0, .int .u32 0, .int .u32 0, .int .u32 0, .int .u32 0] 27 (0, 0)), (g, .cells #[.int .u32 x0, .int .u32 x1, .int .u32 x2, .int .u32 x3, .int .u32 y0, .int .u32 y1, .int .u32 y2, .int .u32 y3] 27 (0, 0))]))
    case first =>
      have HKN := HK
      have HGE := Lib.hid HK.out.be.size
      replace HK := Lib.hid HK.out.drew
      go_region_law (first
        | (go_simp; go_at_call 18; (with_reducible refine (CX.out _ (HA1.out.oldn HK.out) (HT.out.oldn HK.out)).mono ?_); rintro e w' ⟨rfl, hb⟩; replace HK := Lib.hid (HK.out.after hb); clear hb)
        | (go_simp; go_at_call 18; (with_reducible refine (CX.out _ (HA1.out.oldn (HKN.out.more _).drew) (HT.out.oldn (HKN.out.more _).drew)).mono ?_); rintro e w' ⟨rfl, hb⟩; have hge := HGE.out; replace HK := Lib.hid ((HKN.out.more (.cells #[.int .u32 0, .int .u32 0, .int .u32 0, .int .u32 0, .int .u32 0, .int .u32 0, .int .u32 0, .int .u32 0] 27 (0, 0))).drew.after hb); clear hb)
        | (go_simp; go_at_call 18; (with_reducible refine (CY.out _ (HA2.out.oldn HK.out) (HT.out.oldn HK.out)).mono ?_); rintro e w' ⟨rfl, hb⟩; replace HK := Lib.hid (HK.out.after hb); clear hb; try (obtain ⟨e0, e1, e2, e3, e4, e5, e6, e7, f0, f1, f2, f3, f4, f5, f6, f7⟩ := cells8 (HK.out.at 2 rfl)))
        | (go_simp; go_at_call 18; (with_reducible refine (CY.out _ (HA2.out.oldn (HK.out.more _)) (HT.out.oldn (HK.out.more _))).mono ?_); rintro e w' ⟨rfl, hb⟩; have hge := HK.out.be.size; replace HK := Lib.hid ((HK.out.more (.cells #[.int .u32 0, .int .u32 0, .int .u32 0, .int .u32 0, .int .u32 0, .int .u32 0, .int .u32 0, .int .u32 0] 27 (0, 0))).after hb); clear hb; obtain ⟨e0, e1, e2, e3, e4, e5, e6, e7, f0, f1, f2, f3, f4, f5, f6, f7⟩ := cells8 (HK.out.at 2 rfl)))
      all_goals
        go_wp2_with fail
        go_meet
        first
          | exact ⟨_, rfl, Lib.hid (HK.out.put8 2 rfl (.inr hge) (.int .u32 x0) (.int .u32 x1) (.int .u32 x2) (.int .u32 x3) (.int .u32 y0) (.int .u32 y1) (.int .u32 y2) (.int .u32 y3))⟩
          | exact ⟨_, rfl, Lib.hid (HK.out.more _)⟩
    case rest =>
      obtain ⟨g, rfl, HK2⟩ := hcut
      clear HK CX CY R1 R2 C1 CH
      have HK := HK2
      clear HK2
      go_upto_region 5 with fail
      go_cut [9] (fun s9 wx => ∃ g2 : Nat, s9 = .pointer (some ⟨g2, 0, none⟩) ∧ Hid (Kx none w wx [(w.heap.size, .cells #[.int .u32 0, .int .u32 0, .int .u32 0, .int .u32 0, .int .u32 0, .int .u32 0, .int .u32 0, .int .u32 0] 27 (0, 0)), (w.heap.size + 1, .cells #[.int .u32 0, .int .u32 0, .int .u32 0, .int .u32 0, .int .u32 0, .int .u32 0, .int .u32 0, .int .u32 0] 27 (0, 0)), (g, .cells #[.int .u32 x0, .int .u32 x1, .int .u32 x2, .int .u32 x3, .int .u32 y0, .int .u32 y1, .int .u32 y2, .int .u32 y3] 27 (0, 0)), (g2, .cells #[.int .u32 z0, .int .u32 z1, .int .u32 z2, .int .u32 z3, .int .u32 t0, .int .u32 t1, .int .u32 t2, .int .u32 t3] 27 (0, 0))]))
      case first =>
        have HKN := HK
        have HGE := Lib.hid HK.out.be.size
        replace HK := Lib.hid HK.out.drew
        go_region_law (first
          | (go_simp; go_at_call 18; (with_reducible refine (CZ.out _ (HB1.out.oldn HK.out) (HT.out.oldn HK.out)).mono ?_); rintro e w' ⟨rfl, hb⟩; replace HK := Lib.hid (HK.out.after hb); clear hb)
          | (go_simp; go_at_call 18; (with_reducible refine (CZ.out _ (HB1.out.oldn (HKN.out.more _).drew) (HT.out.oldn (HKN.out.more _).drew)).mono ?_); rintro e w' ⟨rfl, hb⟩; have hge := HGE.out; replace HK := Lib.hid ((HKN.out.more (.cells #[.int .u32 0, .int .u32 0, .int .u32 0, .int .u32 0, .int .u32 0, .int .u32 0, .int .u32 0, .int .u32 0] 27 (0, 0))).drew.after hb); clear hb)
          | (go_simp; go_at_call 18; (with_reducible refine (CT.out _ (HB2.out.oldn HK.out) (HT.out.oldn HK.out)).mono ?_); rintro e w' ⟨rfl, hb⟩; replace HK := Lib.hid (HK.out.after hb); clear hb; try (obtain ⟨e0, e1, e2, e3, e4, e5, e6, e7, f0, f1, f2, f3, f4, f5, f6, f7⟩ := cells8 (HK.out.at 3 rfl)))
          | (go_simp; go_at_call 18; (with_reducible refine (CT.out _ (HB2.out.oldn (HK.out.more _)) (HT.out.oldn (HK.out.more _))).mono ?_); rintro e w' ⟨rfl, hb⟩; have hge := HK.out.be.size; replace HK := Lib.hid ((HK.out.more (.cells #[.int .u32 0, .int .u32 0, .int .u32 0, .int .u32 0, .int .u32 0, .int .u32 0, .int .u32 0, .int .u32 0] 27 (0, 0))).after hb); clear hb; obtain ⟨e0, e1, e2, e3, e4, e5, e6, e7, f0, f1, f2, f3, f4, f5, f6, f7⟩ := cells8 (HK.out.at 3 rfl)))
        all_goals
          go_wp2_with fail
          go_meet
          first
            | exact ⟨_, rfl, Lib.hid (HK.out.put8 3 rfl (.inr hge) (.int .u32 z0) (.int .u32 z1) (.int .u32 z2) (.int .u32 z3) (.int .u32 t0) (.int .u32 t1) (.int .u32 t2) (.int .u32 t3))⟩
            | exact ⟨_, rfl, Lib.hid (HK.out.more _)⟩
      case rest =>
        obtain ⟨g2, rfl, HK2⟩ := hcut
        clear HK CZ CT
        have HK := HK2
        clear HK2
        obtain ⟨a0, a1, a2, a3, a4, a5, a6, a7, d0, d1, d2, d3, d4, d5, d6, d7⟩ := cells8 (HK.out.at 0 rfl)
        obtain ⟨m0, m1, m2, m3, m4, m5, m6, m7, n0, n1, n2, n3, n4, n5, n6, n7⟩ := cells8 (HK.out.at 1 rfl)
        obtain ⟨e0, e1, e2, e3, e4, e5, e6, e7, f0, f1, f2, f3, f4, f5, f6, f7⟩ := cells8 (HK.out.at 2 rfl)
        obtain ⟨aa0, aa1, aa2, aa3, aa4, aa5, aa6, aa7, bb0, bb1, bb2, bb3, bb4, bb5, bb6, bb7⟩ := cells8 (HK.out.at 3 rfl)
        obtain ⟨ne1, ne2, ne3, ne4, ne5, ne6⟩ := kx4_ne HK.out
        have me1 := ne1.symm
        have me2 := ne2.symm
        have me3 := ne3.symm
        have me4 := ne4.symm
        have me5 := ne5.symm
        by_cases hh : mhv a = mhv b
        · obtain ⟨g1', g2', g3'⟩ := HP.out hh
          have hsm : sameP [x0, x1, x2, x3] [y0, y1, y2, y3] [z0, z1, z2, z3] [t0, t1, t2, t3] = true := by
            have hh' := hh
            rw [EA.out, EB.out] at hh'
            injection hh' with h1 h2
            unfold sameP
            rw [h1, h2, same_self, same_self]; rfl
          have hl := HL.out hh
          have hrr := HRR.out hh
          have cl := CL.out g1'
          have cr := CR.out g2'
          have hz := HRES.out
          by_cases hx : a.take k = b.take k
          · have hs : sameL (a.take k) (b.take k) = true := by rw [hx]; exact sameL_yes _
            have cq := CQ.out
            rw [hs] at cq
            have C3 := Lib.hid cq
            have c5 := cr (g3' hx)
            obtain ⟨p0, p1, p2, p3, q0, q1, q2, q3, u0, u1, u2, u3, v0, v1, v2, v3, em, _⟩ := mcl_form HA2.out.ok HB2.out.ok
            rw [em] at c5
            rw [hrr hx, em] at hz
            subst hz
            have C5 := Lib.hid (show ∀ w, DRow w b1 (o1 + k * 4) (a.drop k) → DRow w b2 (o2 + k * 4) (b.drop k) → Tabs w → Calls Tryd.prog 7 #[.slice (some ⟨b1, o1 + k * 4, none⟩) (n - k) (c1 - k), .slice (some ⟨b2, o2 + k * 4, none⟩) (n - k) (c2 - k)] w fun e w' => e = .returned (.tuple #[.agg #[.int .u32 p0, .int .u32 p1, .int .u32 p2, .int .u32 p3, .int .u32 q0, .int .u32 q1, .int .u32 q2, .int .u32 q3], .agg #[.int .u32 u0, .int .u32 u1, .int .u32 u2, .int .u32 u3, .int .u32 v0, .int .u32 v1, .int .u32 v2, .int .u32 v3], .bool true]) ∧ Below w.heap.size w w' from c5)
            clear HRES HL HRR HP CL CR CQ EA EB hh hl hrr g1' g2' g3' cl cr c5 hx hs cq em
            go_wp2_with fail
            clear a0 a1 a2 a3 a4 a5 a6 a7 d0 d1 d2 d3 d4 d5 d6 d7 m0 m1 m2 m3 m4 m5 m6 m7 n0 n1 n2 n3 n4 n5 n6 n7 e0 e1 e2 e3 e4 e5 e6 e7 f0 f1 f2 f3 f4 f5 f6 f7 aa0 aa1 aa2 aa3 aa4 aa5 aa6 aa7 bb0 bb1 bb2 bb3 bb4 bb5 bb6 bb7
            replace HK := Lib.hid HK.out.drew
            go_region_held3 (fun _ => True) (exact trivial)
              (first
                | (go_at_call 8; with_reducible refine (C3.out _ (HA1.out.oldn HK.out) (HB1.out.oldn HK.out)).mono ?_; rintro e w' ⟨rfl, hb⟩; replace HK := Lib.hid (HK.out.after hb).drew; clear hb))
            go_wp2_with fail
            go_region_law (first
              | (go_simp; go_at_call 7; (with_reducible refine (C5.out _ (HA2.out.oldn HK.out) (HB2.out.oldn HK.out) (HT.out.oldn HK.out)).mono ?_); rintro e w' ⟨rfl, hb⟩; replace HK := Lib.hid (HK.out.after hb); clear hb; obtain ⟨a0, a1, a2, a3, a4, a5, a6, a7, d0, d1, d2, d3, d4, d5, d6, d7⟩ := cells8 (HK.out.at 0 rfl); obtain ⟨m0, m1, m2, m3, m4, m5, m6, m7, n0, n1, n2, n3, n4, n5, n6, n7⟩ := cells8 (HK.out.at 1 rfl)))
            all_goals
              have HR := Lib.hid ((HK.out.put8 0 rfl (.inr (Nat.le_refl _)) (.int .u32 p0) (.int .u32 p1) (.int .u32 p2) (.int .u32 p3) (.int .u32 q0) (.int .u32 q1) (.int .u32 q2) (.int .u32 q3)).put8 1 rfl (.inr (Nat.le_succ _)) (.int .u32 u0) (.int .u32 u1) (.int .u32 u2) (.int .u32 u3) (.int .u32 v0) (.int .u32 v1) (.int .u32 v2) (.int .u32 v3))
              go_wp2_with fail
              exact bodyPost_ret (v := .tuple #[.agg #[.int .u32 p0, .int .u32 p1, .int .u32 p2, .int .u32 p3, .int .u32 q0, .int .u32 q1, .int .u32 q2, .int .u32 q3], .agg #[.int .u32 u0, .int .u32 u1, .int .u32 u2, .int .u32 u3, .int .u32 v0, .int .u32 v1, .int .u32 v2, .int .u32 v3], .bool true]) (by
                obtain ⟨k0, k1, k2, k3, k4, k5, k6, k7, _⟩ := cells8 (HR.out.at 0 rfl)
                obtain ⟨l0, l1, l2, l3, l4, l5, l6, l7, _⟩ := cells8 (HR.out.at 1 rfl)
                simp [results, go_sem, k0, k1, k2, k3, k4, k5, k6, k7, l0, l1, l2, l3, l4, l5, l6, l7]) rfl ⟨rfl, HR.out.be.plain⟩
          · have cq := CQ.out
            rw [sameL_no hx] at cq
            have C3 := Lib.hid cq
            have c5 := cl hx
            obtain ⟨p0, p1, p2, p3, q0, q1, q2, q3, u0, u1, u2, u3, v0, v1, v2, v3, em, _⟩ := mcl_form HA1.out.ok HB1.out.ok
            rw [em] at c5
            rw [hl hx, em] at hz
            subst hz
            have C5 := Lib.hid (show ∀ w, DRow w b1 o1 (a.take k) → DRow w b2 o2 (b.take k) → Tabs w → Calls Tryd.prog 7 #[.slice (some ⟨b1, o1, none⟩) k c1, .slice (some ⟨b2, o2, none⟩) k c2] w fun e w' => e = .returned (.tuple #[.agg #[.int .u32 p0, .int .u32 p1, .int .u32 p2, .int .u32 p3, .int .u32 q0, .int .u32 q1, .int .u32 q2, .int .u32 q3], .agg #[.int .u32 u0, .int .u32 u1, .int .u32 u2, .int .u32 u3, .int .u32 v0, .int .u32 v1, .int .u32 v2, .int .u32 v3], .bool true]) ∧ Below w.heap.size w w' from c5)
            clear HRES HL HRR HP CL CR CQ EA EB hh hl hrr g1' g2' g3' cl cr c5 hx cq em
            go_wp2_with fail
            clear a0 a1 a2 a3 a4 a5 a6 a7 d0 d1 d2 d3 d4 d5 d6 d7 m0 m1 m2 m3 m4 m5 m6 m7 n0 n1 n2 n3 n4 n5 n6 n7 e0 e1 e2 e3 e4 e5 e6 e7 f0 f1 f2 f3 f4 f5 f6 f7 aa0 aa1 aa2 aa3 aa4 aa5 aa6 aa7 bb0 bb1 bb2 bb3 bb4 bb5 bb6 bb7
            replace HK := Lib.hid HK.out.drew
            go_region_held3 (fun _ => True) (exact trivial)
              (first
                | (go_at_call 8; with_reducible refine (C3.out _ (HA1.out.oldn HK.out) (HB1.out.oldn HK.out)).mono ?_; rintro e w' ⟨rfl, hb⟩; replace HK := Lib.hid (HK.out.after hb).drew; clear hb))
            go_wp2_with fail
            go_region_law (first
              | (go_simp; go_at_call 7; (with_reducible refine (C5.out _ (HA1.out.oldn HK.out) (HB1.out.oldn HK.out) (HT.out.oldn HK.out)).mono ?_); rintro e w' ⟨rfl, hb⟩; replace HK := Lib.hid (HK.out.after hb); clear hb; obtain ⟨a0, a1, a2, a3, a4, a5, a6, a7, d0, d1, d2, d3, d4, d5, d6, d7⟩ := cells8 (HK.out.at 0 rfl); obtain ⟨m0, m1, m2, m3, m4, m5, m6, m7, n0, n1, n2, n3, n4, n5, n6, n7⟩ := cells8 (HK.out.at 1 rfl)))
            all_goals
              have HR := Lib.hid ((HK.out.put8 0 rfl (.inr (Nat.le_refl _)) (.int .u32 p0) (.int .u32 p1) (.int .u32 p2) (.int .u32 p3) (.int .u32 q0) (.int .u32 q1) (.int .u32 q2) (.int .u32 q3)).put8 1 rfl (.inr (Nat.le_succ _)) (.int .u32 u0) (.int .u32 u1) (.int .u32 u2) (.int .u32 u3) (.int .u32 v0) (.int .u32 v1) (.int .u32 v2) (.int .u32 v3))
              go_wp2_with fail
              exact bodyPost_ret (v := .tuple #[.agg #[.int .u32 p0, .int .u32 p1, .int .u32 p2, .int .u32 p3, .int .u32 q0, .int .u32 q1, .int .u32 q2, .int .u32 q3], .agg #[.int .u32 u0, .int .u32 u1, .int .u32 u2, .int .u32 u3, .int .u32 v0, .int .u32 v1, .int .u32 v2, .int .u32 v3], .bool true]) (by
                obtain ⟨k0, k1, k2, k3, k4, k5, k6, k7, _⟩ := cells8 (HR.out.at 0 rfl)
                obtain ⟨l0, l1, l2, l3, l4, l5, l6, l7, _⟩ := cells8 (HR.out.at 1 rfl)
                simp [results, go_sem, k0, k1, k2, k3, k4, k5, k6, k7, l0, l1, l2, l3, l4, l5, l6, l7]) rfl ⟨rfl, HR.out.be.plain⟩
        · have hz := HRES.out
          rw [cl_here hh, EA.out, EB.out] at hz
          have hsm : sameP [x0, x1, x2, x3] [y0, y1, y2, y3] [z0, z1, z2, z3] [t0, t1, t2, t3] = false := by
            rw [EA.out, EB.out] at hh
            unfold sameP
            by_cases h1 : [x0, x1, x2, x3] = [z0, z1, z2, z3]
            · have h2 : ¬ [y0, y1, y2, y3] = [t0, t1, t2, t3] := fun h => hh (by rw [h1, h])
              rw [same_no h2, Bool.and_false]
            · rw [same_no h1, Bool.false_and]
          subst hz
          clear HRES HL HRR HP CL CR CQ EA EB hh
          have HR := Lib.hid ((HK.out.put8 0 rfl (.inr (Nat.le_refl _)) (.int .u32 x0) (.int .u32 x1) (.int .u32 x2) (.int .u32 x3) (.int .u32 y0) (.int .u32 y1) (.int .u32 y2) (.int .u32 y3)).put8 1 rfl (.inr (Nat.le_succ _)) (.int .u32 z0) (.int .u32 z1) (.int .u32 z2) (.int .u32 z3) (.int .u32 t0) (.int .u32 t1) (.int .u32 t2) (.int .u32 t3)).drew
          go_wp2_with fail
          go_region
          all_goals
            go_wp2_with fail
            exact bodyPost_ret (v := .tuple #[.agg #[.int .u32 x0, .int .u32 x1, .int .u32 x2, .int .u32 x3, .int .u32 y0, .int .u32 y1, .int .u32 y2, .int .u32 y3], .agg #[.int .u32 z0, .int .u32 z1, .int .u32 z2, .int .u32 z3, .int .u32 t0, .int .u32 t1, .int .u32 t2, .int .u32 t3], .bool true]) (by
              obtain ⟨k0, k1, k2, k3, k4, k5, k6, k7, _⟩ := cells8 (HR.out.at 0 rfl)
              obtain ⟨l0, l1, l2, l3, l4, l5, l6, l7, _⟩ := cells8 (HR.out.at 1 rfl)
              simp [results, go_sem, k0, k1, k2, k3, k4, k5, k6, k7, l0, l1, l2, l3, l4, l5, l6, l7]) rfl ⟨rfl, HR.out.be.plain⟩
end Go.Proofs.YtcjclbhkheogpaaDoor
