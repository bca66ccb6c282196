/- The fixed fact that every law asks first: the contract of awake. -/
import Derived.Test.YtnobnnbckehikaaDoorOneP
import Derived.Test.YtnobnnbckehikaaDoorOneO
set_option linter.unusedVariables false
namespace Go.Proofs.YtnobnnbckehikaaDoor
open Go.RowKit

theorem steps_codex (m : Ws) (w : World) (hm : Ok4 m) :
    Calls Tryd.prog 12 #[ag m] w fun e w' => ∃ g cap, e = .returned (.slice (some ⟨g, 0, none⟩) 35 cap) ∧ 35 ≤ cap ∧ cap ≤ maxLen ∧ IRow w' g (nms m) ∧ w.heap.size ≤ g ∧ Below w.heap.size w w' := steps_code m w hm
theorem sign_codex (seed msg : Ws) (w : World) (hs : Ok4 seed) (hm : Ok4 msg) (ht : Tabs w) :
    Calls Tryd.prog 17 #[ag seed, ag msg] w fun e w' => ∃ g cap, e = .returned (.slice (some ⟨g, 0, none⟩) 35 cap) ∧ 35 ≤ cap ∧ cap ≤ maxLen ∧ DRow w' g 0 (sgn seed msg) ∧ w.heap.size ≤ g ∧ Below w.heap.size w w' := sign_code seed msg w hs hm ht
theorem sign_refx (seed msg : Ws) (w : World) (hs : Ok4 seed) (hm : Ok4 msg) :
    Calls Tryd.prog 18 #[ag seed, ag msg] w fun e w' => ∃ g cap, e = .returned (.slice (some ⟨g, 0, none⟩) 35 cap) ∧ 35 ≤ cap ∧ cap ≤ maxLen ∧ DRow w' g 0 (sgn seed msg) ∧ w.heap.size ≤ g ∧ Below w.heap.size w w' := sign_ref seed msg w hs hm
theorem nms_zero : nms [0, 0, 0, 0] = List.replicate 32 0 ++ [1, 14, 0] := by decide
theorem zero_cells {w : World} {g : Nat} (h : IRow w g (nms [0, 0, 0, 0])) : w.cell? ⟨g, 0, none⟩ = some (.int .i64 0) ∧ w.cell? ⟨g, 32, none⟩ = some (.int .i64 1) ∧ w.cell? ⟨g, 33, none⟩ = some (.int .i64 14) ∧ w.cell? ⟨g, 34, none⟩ = some (.int .i64 0) := by
  rw [nms_zero] at h
  exact ⟨h.at_ 0 (by decide), h.at_ 32 (by decide), h.at_ 33 (by decide), h.at_ 34 (by decide)⟩
theorem one4 (n : Nat) (h : n < 4294967296) : Ok4 [(n : Int), 0, 0, 0] := num_ok h
theorem twelve {w W : World} {g n0 n1 : Nat} {t : TypeId} (hi : IRow W g (nms [0, 0, 0, 0])) (hk : Kx none w W [(n0, .cells #[.int .u32 1, .int .u32 0, .int .u32 0, .int .u32 0] t (0, 0)), (n1, .cells #[.int .u32 2, .int .u32 0, .int .u32 0, .int .u32 0] t (0, 0))]) :
    W.cell? ⟨g, 0, none⟩ = some (.int .i64 0) ∧ W.cell? ⟨g, 32, none⟩ = some (.int .i64 1) ∧ W.cell? ⟨g, 33, none⟩ = some (.int .i64 14) ∧ W.cell? ⟨g, 34, none⟩ = some (.int .i64 0) ∧ W.cell? ⟨n0, 0, none⟩ = some (.int .u32 1) ∧ W.cell? ⟨n0, 1, none⟩ = some (.int .u32 0) ∧ W.cell? ⟨n0, 2, none⟩ = some (.int .u32 0) ∧ W.cell? ⟨n0, 3, none⟩ = some (.int .u32 0) ∧ W.cell? ⟨n1, 0, none⟩ = some (.int .u32 2) ∧ W.cell? ⟨n1, 1, none⟩ = some (.int .u32 0) ∧ W.cell? ⟨n1, 2, none⟩ = some (.int .u32 0) ∧ W.cell? ⟨n1, 3, none⟩ = some (.int .u32 0) := by
  obtain ⟨h0, h1, h2, h3⟩ := zero_cells hi
  obtain ⟨a0, a1, a2, a3, _⟩ := cells4 (hk.at 0 rfl)
  obtain ⟨b0, b1, b2, b3, _⟩ := cells4 (hk.at 1 rfl)
  exact ⟨h0, h1, h2, h3, a0, a1, a2, a3, b0, b1, b2, b3⟩
set_option maxRecDepth 100000 in
set_option maxHeartbeats 4000000 in
theorem awake_any (w : World) (ht : Tabs w) :
    Calls Tryd.prog 10 #[] w fun e w' => e = .returned (.bool true) ∧ Below w.heap.size w w' := by
  have c1 := fun w => steps_codex [0, 0, 0, 0] w zero4_ok
  have c2 := fun w ht => sign_codex [1, 0, 0, 0] [2, 0, 0, 0] w (one4 1 (by omega)) (one4 2 (by omega)) ht
  have c3 := fun w ht => public_code [1, 0, 0, 0] w (one4 1 (by omega)) ht
  obtain ⟨p0, p1, p2, p3, ep, _⟩ := ok4 (pubk_ok (one4 1 (by omega)))
  have ep : pubk [1, 0, 0, 0] = [p0, p1, p2, p3] := ep
  have op : Ok4 [p0, p1, p2, p3] := by rw [← ep]; exact pubk_ok (one4 1 (by omega))
  have c4 := fun (b cap : Nat) w (hc : 35 ≤ cap) hr ht => check5_row (b := b) (off := 0) (cap := cap) (l := sgn [1, 0, 0, 0] [2, 0, 0, 0]) [p0, p1, p2, p3] [2, 0, 0, 0] w op (one4 2 (by omega)) (sgn_length _ _) hc hr ht
  have c5 := fun w => check5_no (A := none) (n := 0) (cap := 0) [p0, p1, p2, p3] [2, 0, 0, 0] w op (one4 2 (by omega)) (by omega) (by omega)
  rw [rch_sgn, ep, same_self] at c4
  rw [ep] at c3
  rw [ag4] at c1
  rw [ag4, ag4] at c2 c3 c4 c5
  have C1 := Lib.hid c1
  have C2 := Lib.hid c2
  have C3 := Lib.hid c3
  have C4 := Lib.hid c4
  have C5 := Lib.hid c5
  have HT := Lib.hid ht
  have HK0 := Lib.hid (Kx.nil none w)
  clear c1 c2 c3 c4 c5 ht ep op
  go_enter Tryd.func10, Tryd.ntmps10
  go_wp2_with fail
  refine (C1.out _).mono ?_
  rintro e w1 ⟨g, cap, rfl, _, _, hir, _, hb⟩
  have HI := Lib.hid hir
  have HK := Lib.hid (((HK0.out.after hb).add w1.heap.size rfl (.cells #[.int .u32 1, .int .u32 0, .int .u32 0, .int .u32 0] 24 (0, 0))).add (w1.heap.size + 1) (by simp) (.cells #[.int .u32 2, .int .u32 0, .int .u32 0, .int .u32 0] 24 (0, 0)))
  clear hb hir HK0
  obtain ⟨a0, a1, a2, a3, _⟩ := cells4 (HK.out.at 0 rfl)
  obtain ⟨b0, b1, b2, b3, _⟩ := cells4 (HK.out.at 1 rfl)
  go_wp2_with fail
  refine (C2.out _ (HT.out.oldn HK.out)).mono ?_
  rintro e w2 ⟨gs, cs, rfl, hcs, _, hdr, _, hb⟩
  have HD := Lib.hid hdr.drew
  replace HI := Lib.hid ((HI.out.kept ((((Below.refl _ _).alloc (Nat.le_refl _) _).alloc (by simp) _).trans (hb.mono (by simp; omega)))).drew)
  replace HK := Lib.hid (HK.out.after hb).drew
  clear hb hdr a0 a1 a2 a3 b0 b1 b2 b3
  go_wp2_with fail
  go_region_held3 (fun W => W.cell? ⟨g, 0, none⟩ = some (.int .i64 0) ∧ W.cell? ⟨g, 32, none⟩ = some (.int .i64 1) ∧ W.cell? ⟨g, 33, none⟩ = some (.int .i64 14) ∧ W.cell? ⟨g, 34, none⟩ = some (.int .i64 0) ∧ W.cell? ⟨w1.heap.size, 0, none⟩ = some (.int .u32 1) ∧ W.cell? ⟨w1.heap.size, 1, none⟩ = some (.int .u32 0) ∧ W.cell? ⟨w1.heap.size, 2, none⟩ = some (.int .u32 0) ∧ W.cell? ⟨w1.heap.size, 3, none⟩ = some (.int .u32 0) ∧ W.cell? ⟨w1.heap.size + 1, 0, none⟩ = some (.int .u32 2) ∧ W.cell? ⟨w1.heap.size + 1, 1, none⟩ = some (.int .u32 0) ∧ W.cell? ⟨w1.heap.size + 1, 2, none⟩ = some (.int .u32 0) ∧ W.cell? ⟨w1.heap.size + 1, 3, none⟩ = some (.int .u32 0))
    (with_reducible exact twelve HI.out HK.out)
    (first
      | (go_at_call 14; with_reducible refine (C3.out _ (HT.out.oldn HK.out)).mono ?_; rintro e w' ⟨rfl, hb⟩; replace HK := Lib.hid (HK.out.after hb); replace HI := Lib.hid (HI.out.kept hb); replace HD := Lib.hid (HD.out.kept hb); clear hb)
      | (go_at_call 20; with_reducible refine (C4.out _ _ _ hcs HD.out (HT.out.oldn HK.out)).mono ?_; rintro e w' ⟨rfl, hb⟩; replace HK := Lib.hid (HK.out.after hb); replace HI := Lib.hid (HI.out.kept hb); replace HD := Lib.hid (HD.out.kept hb); clear hb)
      | (go_at_call 20; with_reducible refine (C5.out _).mono ?_; rintro e w' ⟨rfl, hb⟩; replace HK := Lib.hid (HK.out.after hb); replace HI := Lib.hid (HI.out.kept hb); replace HD := Lib.hid (HD.out.kept hb); clear hb))
  all_goals
    go_wp2_with fail
    go_ret
    exact ⟨rfl, HK.out.be.plain⟩
end Go.Proofs.YtnobnnbckehikaaDoor
