/- The public key of ends: the contract of the reference's Of. -/
import Derived.Test.YtnobnnbckehikaaDoorOneA
import Derived.Deep.RegionLaw
set_option linter.unusedVariables false
namespace Go.Proofs.YtnobnnbckehikaaDoor
open Go.RowKit

def Kf2 (w W : World) (k : Ws) : Prop := Kx none w W [(w.heap.size, .cells #[.int .u32 0, .int .u32 0, .int .u32 0, .int .u32 0] 24 (0, 0)), (w.heap.size + 1, .cells (k.map (Value.int .u32)).toArray 24 (0, 0))]
set_option maxRecDepth 100000 in
set_option maxHeartbeats 2000000 in
theorem ofr_row (l : Dl) (b off cap : Nat) (w : World) (hl : l.length = 35) (hr : DRow w b off l) :
    Calls Tryd.prog 32 #[.slice (some ⟨b, off, none⟩) 35 cap] w fun e w' => e = .returned (ag (pof l)) ∧ Below w.heap.size w w' := by
  have HR := Lib.hid hr
  have HL := Lib.hid hl
  have hbw := hr.lt
  have hne : w.heap.size + 1 ≠ b := by omega
  obtain ⟨f, hf⟩ : ∃ f, ag (pof l) = f := ⟨_, rfl⟩
  rw [hf]
  have HF := Lib.hid hf
  have HK0 : Hid (Kf2 w ((w.alloc (.cells #[.int .u32 0, .int .u32 0, .int .u32 0, .int .u32 0] 24)).alloc (.cells #[.int .u32 35, .int .u32 0, .int .u32 0, .int .u32 0] 24)) [35, 0, 0, 0]) :=
    Lib.hid (((Kx.nil none w).more (.cells #[.int .u32 0, .int .u32 0, .int .u32 0, .int .u32 0] 24 (0, 0))).add (w.heap.size + 1) (by simp) (.cells #[.int .u32 35, .int .u32 0, .int .u32 0, .int .u32 0] 24 (0, 0)))
  clear hr hl hf
  go_enter Tryd.func32, Tryd.ntmps32
  go_wp2_with fail
  go_loopw [4] (fun v wr => ∃ (j : Nat) (y0 y1 y2 y3 : Int), j ≤ 35 ∧ v = .int .i64 (j : Int) ∧ Hid (pofs [35, 0, 0, 0] (l.take j) = [y0, y1, y2, y3]) ∧ Hid (Kf2 w wr [y0, y1, y2, y3])) (fun v _ => 35 - (intOf v).toNat)
  case atStart => exact ⟨0, 35, 0, 0, 0, Nat.zero_le _, rfl, rfl, HK0⟩
  case round =>
    obtain ⟨j, y0, y1, y2, y3, hj, rfl, HY, HK⟩ := hrel
    by_cases hlt : j < 35
    · have i0 : (0 : Int) ≤ (j : Int) := by omega
      have i1 : (j : Int) < 35 := by omega
      have hg := List.getElem?_eq_getElem (l := l) (i := j) (by rw [HL.out]; exact hlt)
      have oe := HR.out.ok _ (List.getElem_mem (l := l) (n := j) (by rw [HL.out]; exact hlt))
      obtain ⟨e0, e1, e2, e3, ee, _⟩ := ok4 oe
      rw [ee] at hg oe
      obtain ⟨q0, q1, q2, q3⟩ := (HR.out.oldn HK.out).four hg
      have oy : Ok4 (pofs [35, 0, 0, 0] (l.take j)) := pofs_ok _ k35_ok (HR.out.ok.take j)
      have oz : Ok4 (pofs [35, 0, 0, 0] (l.take (j + 1))) := pofs_ok _ k35_ok (HR.out.ok.take (j + 1))
      have e : pofs [35, 0, 0, 0] (l.take (j + 1)) = pair (pofs [35, 0, 0, 0] (l.take j)) [e0, e1, e2, e3] := by
        rw [List.take_add_one, hg, Option.toList_some, pofs_snoc]
      obtain ⟨z0, z1, z2, z3, ez, _⟩ := ok4 oz
      have HZ : Hid (pofs [35, 0, 0, 0] (l.take (j + 1)) = [z0, z1, z2, z3]) := Lib.hid ez
      rw [HY.out] at oy e
      have c := fun w => pair_ref [y0, y1, y2, y3] [e0, e1, e2, e3] w oy oe
      rw [← e, ez, ag4, ag4, ag4] at c
      have C := Lib.hid c
      clear c e ez oy oz ee oe hg
      obtain ⟨a0, a1, a2, a3, _⟩ := cells4 (HK.out.at 1 rfl)
      go_wp2_with fail
      go_region_law (first
        | (go_simp; go_at_call 33; (with_reducible refine (C.out _).mono ?_); rintro e w1 ⟨rfl, hb⟩; replace HK : Hid (Kf2 w w1 [y0, y1, y2, y3]) := Lib.hid (HK.out.drew.after hb); clear hb; obtain ⟨a0, a1, a2, a3, d0, d1, d2, d3⟩ := cells4 (HK.out.at 1 rfl)))
      all_goals
        have HK2 : Hid (Kf2 w ((((w1.setCell ⟨w.heap.size + 1, 0, none⟩ (.int .u32 z0)).setCell ⟨w.heap.size + 1, 1, none⟩ (.int .u32 z1)).setCell ⟨w.heap.size + 1, 2, none⟩ (.int .u32 z2)).setCell ⟨w.heap.size + 1, 3, none⟩ (.int .u32 z3)) [z0, z1, z2, z3]) := Lib.hid (HK.out.put4 1 rfl (.inr (by omega)) (.int .u32 z0) (.int .u32 z1) (.int .u32 z2) (.int .u32 z3))
        go_wp2_with fail
        go_roundw
        case rel => exact ⟨j + 1, z0, z1, z2, z3, by omega, by go_num, HZ, HK2⟩
        case measure => simp [intOf]; omega
    · obtain rfl : j = 35 := by omega
      have hy := HY.out
      rw [List.take_of_length_le (by rw [HL.out]; omega)] at hy
      have HF2 : Hid (f = .agg #[.int .u32 y0, .int .u32 y1, .int .u32 y2, .int .u32 y3]) := Lib.hid (by rw [← HF.out, pof, hy, ag4])
      clear hy
      obtain ⟨a0, a1, a2, a3, _⟩ := cells4 (HK.out.at 1 rfl)
      obtain ⟨b0, b1, b2, b3, d0, d1, d2, d3⟩ := cells4 (HK.out.at 0 rfl)
      have HR := Lib.hid (row4 (HK.out.at 0 rfl) (.int .u32 y0) (.int .u32 y1) (.int .u32 y2) (.int .u32 y3))
      have HE := Lib.hid (HK.out.put4 0 rfl (.inr (by simp)) (.int .u32 y0) (.int .u32 y1) (.int .u32 y2) (.int .u32 y3)).be.plain
      go_wp2_with fail
      exact bodyPost_ret (v := .agg #[.int .u32 y0, .int .u32 y1, .int .u32 y2, .int .u32 y3]) (by
        obtain ⟨k0, k1, k2, k3, _⟩ := cells4 HR.out
        simp [results, go_sem, k0, k1, k2, k3]) rfl ⟨by rw [HF2.out], HE.out⟩
end Go.Proofs.YtnobnnbckehikaaDoor
