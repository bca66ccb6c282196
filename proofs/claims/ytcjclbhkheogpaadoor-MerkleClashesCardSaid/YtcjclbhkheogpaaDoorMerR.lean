/- The laws' alive: the document's example: true. -/
import Derived.Test.YtcjclbhkheogpaaDoorMerO
import Derived.Deep.RegionHeld3
set_option linter.unusedVariables false
namespace Go.Proofs.YtcjclbhkheogpaaDoor
open Go.RowKit

theorem drow_of {W : World} {g : Nat} {t : TypeId} {l : Dl} (h : W.heap[g]? = some (.cells (mcs l).toArray t (0, 0))) (ho : Oks l) : DRow W g 0 l := by
  refine ⟨ho, (Array.getElem?_eq_some_iff.1 h).1, fun j d hj i v hi => ?_⟩
  rw [Nat.zero_add, cell_of_row W g _ _ t (0, 0) h]
  have := cs_at ho j d hj i v hi
  simpa using this
theorem drow_new {W : World} {g : Nat} {t : TypeId} {l : Dl} (hg : W.heap.size = g) (ho : Oks l) : DRow (W.alloc (.cells (mcs l).toArray t (0, 0))) g 0 l := by
  subst hg
  exact drow_of (heap_alloc_new _ _) ho
theorem hf3 : hf 3 = 2 := by decide
theorem hf2 : hf 2 = 1 := by decide
theorem root3 (a b c : Ws) : mroot [a, b, c] = pair (pair a b) c := by
  rw [root_two (by simp)]
  show pair (mroot ([a, b, c].take (hf 3))) (mroot ([a, b, c].drop (hf 3))) = _
  rw [hf3]
  show pair (mroot [a, b]) (mroot [c]) = _
  rw [root_two (l := [a, b]) (by simp), root_small (l := [c]) (by simp)]
  show pair (pair (mroot ([a, b].take (hf 2))) (mroot ([a, b].drop (hf 2)))) c = _
  rw [hf2]
  show pair (pair (mroot [a]) (mroot [b])) c = _
  rw [root_small (by simp), root_small (by simp)]
  rfl
theorem way3 (a b c : Ws) : mway [a, b, c] 1 = [a, c] := by
  rw [way_left (by simp) (show 1 < hf 3 by rw [hf3]; omega)]
  show mway ([a, b, c].take (hf 3)) 1 ++ [mroot ([a, b, c].drop (hf 3))] = _
  rw [hf3]
  show mway [a, b] 1 ++ [mroot [c]] = _
  rw [way_right (l := [a, b]) (by simp) (show ¬ 1 < hf 2 by rw [hf2]; omega), root_small (l := [c]) (by simp)]
  show (mway ([a, b].drop (hf 2)) (1 - hf 2) ++ [mroot ([a, b].take (hf 2))]) ++ [c] = _
  rw [hf2]
  show (mway [b] 0 ++ [mroot [a]]) ++ [c] = _
  rw [way_small (by simp), root_small (by simp)]
  rfl
theorem goes3 (a b c : Ws) : mgoes [a, b, c] 1 true = [b, c] := by
  rw [goes_left (by simp) (by simp) (show 1 ≤ hf 3 by rw [hf3]; omega)]
  show mgoes ([a, b, c].take (hf 3)) 1 true ++ [mroot ([a, b, c].drop (hf 3))] = _
  rw [hf3]
  show mgoes [a, b] 1 true ++ [mroot [c]] = _
  rw [goes_left (l := [a, b]) (by simp) (by simp) (show 1 ≤ hf 2 by rw [hf2]; omega), root_small (l := [c]) (by simp)]
  show (mgoes ([a, b].take (hf 2)) 1 true ++ [mroot ([a, b].drop (hf 2))]) ++ [c] = _
  rw [hf2]
  show (mgoes [a] 1 true ++ [mroot [b]]) ++ [c] = _
  rw [goes_whole (by simp), root_small (by simp)]
  rfl
theorem oks2 {a b : Ws} (h : Ok4 a) (k : Ok4 b) : Oks [a, b] := by
  intro d hd
  simp only [List.mem_cons, List.not_mem_nil, or_false] at hd
  rcases hd with rfl | rfl
  · exact h
  · exact k
theorem oks3 {a b c : Ws} (h : Ok4 a) (k : Ok4 b) (m : Ok4 c) : Oks [a, b, c] := by
  intro d hd
  simp only [List.mem_cons, List.not_mem_nil, or_false] at hd
  rcases hd with rfl | rfl | rfl
  · exact h
  · exact k
  · exact m
theorem allA {w W : World} {n1 n2 n3 : Nat} {r : List (Nat × Obj)} {t u v : TypeId} {a0 a1 a2 a3 b0 b1 b2 b3 c0 c1 c2 c3 : Int} (h : Kx none w W ((n1, .cells #[.int .u32 a0, .int .u32 a1, .int .u32 a2, .int .u32 a3] t (0, 0)) :: (n2, .cells #[.int .u32 b0, .int .u32 b1, .int .u32 b2, .int .u32 b3] u (0, 0)) :: (n3, .cells #[.int .u32 c0, .int .u32 c1, .int .u32 c2, .int .u32 c3] v (0, 0)) :: r)) : W.cell? ⟨n1, 0, none⟩ = some (.int .u32 a0) ∧ W.cell? ⟨n1, 1, none⟩ = some (.int .u32 a1) ∧ W.cell? ⟨n1, 2, none⟩ = some (.int .u32 a2) ∧ W.cell? ⟨n1, 3, none⟩ = some (.int .u32 a3) ∧ W.cell? ⟨n2, 0, none⟩ = some (.int .u32 b0) ∧ W.cell? ⟨n2, 1, none⟩ = some (.int .u32 b1) ∧ W.cell? ⟨n2, 2, none⟩ = some (.int .u32 b2) ∧ W.cell? ⟨n2, 3, none⟩ = some (.int .u32 b3) ∧ W.cell? ⟨n3, 0, none⟩ = some (.int .u32 c0) ∧ W.cell? ⟨n3, 1, none⟩ = some (.int .u32 c1) ∧ W.cell? ⟨n3, 2, none⟩ = some (.int .u32 c2) ∧ W.cell? ⟨n3, 3, none⟩ = some (.int .u32 c3) := by
  obtain ⟨p0, p1, p2, p3, _⟩ := cells4 (h.at 0 rfl)
  obtain ⟨q0, q1, q2, q3, _⟩ := cells4 (h.at 1 rfl)
  obtain ⟨r0, r1, r2, r3, _⟩ := cells4 (h.at 2 rfl)
  exact ⟨p0, p1, p2, p3, q0, q1, q2, q3, r0, r1, r2, r3⟩
theorem allA2 {w W : World} {n1 n2 n3 : Nat} {r : List (Nat × Obj)} {t u v : TypeId} {o : Obj} {a0 a1 a2 a3 b0 b1 b2 b3 c0 c1 c2 c3 : Int} (h : Kx none w W ((n1, .cells #[.int .u32 a0, .int .u32 a1, .int .u32 a2, .int .u32 a3] t (0, 0)) :: (n2, .cells #[.int .u32 b0, .int .u32 b1, .int .u32 b2, .int .u32 b3] u (0, 0)) :: (n3, .cells #[.int .u32 c0, .int .u32 c1, .int .u32 c2, .int .u32 c3] v (0, 0)) :: r)) : (W.alloc o).cell? ⟨n1, 0, none⟩ = some (.int .u32 a0) ∧ (W.alloc o).cell? ⟨n1, 1, none⟩ = some (.int .u32 a1) ∧ (W.alloc o).cell? ⟨n1, 2, none⟩ = some (.int .u32 a2) ∧ (W.alloc o).cell? ⟨n1, 3, none⟩ = some (.int .u32 a3) ∧ (W.alloc o).cell? ⟨n2, 0, none⟩ = some (.int .u32 b0) ∧ (W.alloc o).cell? ⟨n2, 1, none⟩ = some (.int .u32 b1) ∧ (W.alloc o).cell? ⟨n2, 2, none⟩ = some (.int .u32 b2) ∧ (W.alloc o).cell? ⟨n2, 3, none⟩ = some (.int .u32 b3) ∧ (W.alloc o).cell? ⟨n3, 0, none⟩ = some (.int .u32 c0) ∧ (W.alloc o).cell? ⟨n3, 1, none⟩ = some (.int .u32 c1) ∧ (W.alloc o).cell? ⟨n3, 2, none⟩ = some (.int .u32 c2) ∧ (W.alloc o).cell? ⟨n3, 3, none⟩ = some (.int .u32 c3) :=
  allA (r := r ++ [(W.heap.size, o)]) (h.more o)
set_option maxRecDepth 100000 in
set_option maxHeartbeats 8000000 in
theorem alive_any (w : World) (ht : Tabs w) :
    Calls Tryd.prog 5 #[] w fun e w' => e = .returned (.bool true) ∧ Below w.heap.size w w' := by
  have oa := dof_ok0 ⟨#[97]⟩ (by decide)
  have ob := dof_ok0 ⟨#[98]⟩ (by decide)
  have oc := dof_ok0 ⟨#[99]⟩ (by decide)
  have ca := fun w => of_ref ⟨#[97]⟩ w (by decide)
  have cb := fun w => of_ref ⟨#[98]⟩ w (by decide)
  have cc := fun w => of_ref ⟨#[99]⟩ w (by decide)
  obtain ⟨a0, a1, a2, a3, ha, _⟩ := ok4 oa
  obtain ⟨b0, b1, b2, b3, hb, _⟩ := ok4 ob
  obtain ⟨c0, c1, c2, c3, hc, _⟩ := ok4 oc
  rw [ha] at oa ca
  rw [hb] at ob cb
  rw [hc] at oc cc
  rw [ag4] at ca cb cc
  have ol := oks3 oa ob oc
  have op := pair_ok0 oa ob
  have oz := pair_ok0 op oc
  have cp := fun w => pair_ref [a0, a1, a2, a3] [b0, b1, b2, b3] w oa ob
  have cz := fun w => pair_ref (pair [a0, a1, a2, a3] [b0, b1, b2, b3]) [c0, c1, c2, c3] w op oc
  have cr := fun (g : Nat) w => root_any (A := some ⟨g, 0, none⟩) (cap := 3) (n := 3) (l := [[a0, a1, a2, a3], [b0, b1, b2, b3], [c0, c1, c2, c3]]) w rfl (by omega) (by omega) (by omega)
  have cw := fun (g : Nat) w => prove_yes (A := some ⟨g, 0, none⟩) (cap := 3) (n := 3) (m := 1) (l := [[a0, a1, a2, a3], [b0, b1, b2, b3], [c0, c1, c2, c3]]) w rfl (by omega) (by omega) (by omega) (by omega)
  have cg := fun (g : Nat) w => proveOn_yes (A := some ⟨g, 0, none⟩) (cap := 3) (n := 3) (m := 1) (l := [[a0, a1, a2, a3], [b0, b1, b2, b3], [c0, c1, c2, c3]]) w rfl (by omega) (by omega) (by omega) (by omega) (by omega)
  rw [root3] at cr
  rw [way3] at cw
  rw [goes3] at cg
  obtain ⟨p0, p1, p2, p3, hp, _⟩ := ok4 op
  rw [hp] at cp cz oz cr
  obtain ⟨z0, z1, z2, z3, hz, _⟩ := ok4 oz
  rw [hz] at cz cr
  rw [ag4, ag4, ag4] at cp cz
  rw [ag4] at cr
  have cw : ∀ (g : Nat) (w : World), Dd w (some ⟨g, 0, none⟩) [[a0, a1, a2, a3], [b0, b1, b2, b3], [c0, c1, c2, c3]] → Tabs w → Calls Tryd.prog 11 #[.slice (some ⟨g, 0, none⟩) 3 3, .int .i64 1] w (PrvE w [[a0, a1, a2, a3], [c0, c1, c2, c3]] 0) := cw
  have cg : ∀ (g : Nat) (w : World), Dd w (some ⟨g, 0, none⟩) [[a0, a1, a2, a3], [b0, b1, b2, b3], [c0, c1, c2, c3]] → Tabs w → Calls Tryd.prog 15 #[.slice (some ⟨g, 0, none⟩) 3 3, .int .i64 1] w (PrvE w [[b0, b1, b2, b3], [c0, c1, c2, c3]] 0) := cg
  have csame : ∀ (A B : Option Addr) (c1 c2 : Nat) (l : Dl) (w : World), l.length = 2 → Dd w A l → Dd w B l → Calls Tryd.prog 8 #[.slice A 2 c1, .slice B 2 c2] w fun e w' => e = .returned (.bool true) ∧ Below w.heap.size w w' := by
    intro A B c1 c2 l w h d1 d2
    have := samer (c1 := c1) (c2 := c2) w h h (by omega) d1 d2
    rw [sameL_yes] at this
    exact this
  have HCA := Lib.hid ca
  have HCB := Lib.hid cb
  have HCC := Lib.hid cc
  have HCP := Lib.hid cp
  have HCZ := Lib.hid cz
  have HCR := Lib.hid cr
  have HCW := Lib.hid cw
  have HCG := Lib.hid cg
  have HCS := Lib.hid csame
  have HOL := Lib.hid ol
  have HO1 := Lib.hid (oks2 oa oc)
  have HO2 := Lib.hid (oks2 ob oc)
  have HT := Lib.hid ht
  have HK := Lib.hid (Kx.nil none w)
  have q4 := eq4s
  have s0 := same_self
  clear ca cb cc cp cz cr cw cg csame ol op oz ht ha hb hc hp hz oa ob oc
  go_enter Tryd.func5, Tryd.ntmps5
  go_wp2_with fail
  refine (HCA.out _).mono ?_
  rintro e w1 ⟨rfl, hb⟩
  replace HK := Lib.hid (HK.out.after hb)
  clear hb
  go_wp2_with fail
  refine (HCB.out _).mono ?_
  rintro e w2 ⟨rfl, hb⟩
  replace HK := Lib.hid (HK.out.after hb)
  clear hb
  go_wp2_with fail
  refine (HCC.out _).mono ?_
  rintro e w3 ⟨rfl, hb⟩
  have hk := ((((HK.out.after hb).add _ rfl (.cells #[.int .u32 a0, .int .u32 a1, .int .u32 a2, .int .u32 a3] 26 (0, 0))).add (w3.heap.size + 1) (by simp) (.cells #[.int .u32 b0, .int .u32 b1, .int .u32 b2, .int .u32 b3] 26 (0, 0))).add (w3.heap.size + 1 + 1) (by simp) (.cells #[.int .u32 c0, .int .u32 c1, .int .u32 c2, .int .u32 c3] 26 (0, 0))).add (w3.heap.size + 1 + 1 + 1) (by simp) (.cells (mcs [[a0, a1, a2, a3], [b0, b1, b2, b3], [c0, c1, c2, c3]]).toArray 26 (0, 0))
  simp only [List.cons_append, List.nil_append] at hk
  replace HK := Lib.hid hk
  clear hb hk
  go_wp2_with fail
  refine (HCW.out _ _ (Dd.row (drow_of (HK.out.at 3 rfl) HOL.out)) (HT.out.oldn HK.out)).mono ?_
  rintro e w4 ⟨v, rfl, ho, hb⟩
  obtain ⟨A1, k1, rfl, _, _, _, hd⟩ := Dd.own ho HO1.out
  replace HK := Lib.hid (HK.out.after hb)
  have HD1 := Lib.hid hd
  clear ho hb hd
  go_wp2_with fail
  refine (HCG.out _ _ (Dd.row (drow_of (HK.out.at 3 rfl) HOL.out)) (HT.out.oldn HK.out)).mono ?_
  rintro e w5 ⟨v, rfl, ho, hb⟩
  obtain ⟨A2, k2, rfl, _, _, _, hd⟩ := Dd.own ho HO2.out
  replace HK := Lib.hid (HK.out.after hb).drew
  replace HD1 := Lib.hid (HD1.out.kept hb).drew
  have HD2 := Lib.hid hd.drew
  clear ho hb hd
  go_wp2_with fail
  go_region_held3 (fun W => W.cell? ⟨w3.heap.size, 0, none⟩ = some (.int .u32 a0) ∧ W.cell? ⟨w3.heap.size, 1, none⟩ = some (.int .u32 a1) ∧ W.cell? ⟨w3.heap.size, 2, none⟩ = some (.int .u32 a2) ∧ W.cell? ⟨w3.heap.size, 3, none⟩ = some (.int .u32 a3) ∧ W.cell? ⟨w3.heap.size + 1, 0, none⟩ = some (.int .u32 b0) ∧ W.cell? ⟨w3.heap.size + 1, 1, none⟩ = some (.int .u32 b1) ∧ W.cell? ⟨w3.heap.size + 1, 2, none⟩ = some (.int .u32 b2) ∧ W.cell? ⟨w3.heap.size + 1, 3, none⟩ = some (.int .u32 b3) ∧ W.cell? ⟨w3.heap.size + 1 + 1, 0, none⟩ = some (.int .u32 c0) ∧ W.cell? ⟨w3.heap.size + 1 + 1, 1, none⟩ = some (.int .u32 c1) ∧ W.cell? ⟨w3.heap.size + 1 + 1, 2, none⟩ = some (.int .u32 c2) ∧ W.cell? ⟨w3.heap.size + 1 + 1, 3, none⟩ = some (.int .u32 c3))
    (first | (with_reducible exact allA2 HK.out) | (with_reducible exact allA HK.out))
    (first
      | (go_at_call 9; (with_reducible refine (HCR.out _ _ (Dd.row (drow_of (HK.out.at 3 rfl) HOL.out)) (HT.out.oldn HK.out)).mono ?_); rintro e w' ⟨rfl, hb⟩; replace HK := Lib.hid (HK.out.after hb); replace HD1 := Lib.hid (HD1.out.kept hb); replace HD2 := Lib.hid (HD2.out.kept hb); clear hb)
      | (go_at_call 10; (with_reducible refine (HCP.out _).mono ?_); rintro e w' ⟨rfl, hb⟩; replace HK := Lib.hid (HK.out.after hb); replace HD1 := Lib.hid (HD1.out.kept hb); replace HD2 := Lib.hid (HD2.out.kept hb); clear hb)
      | (go_at_call 10; (with_reducible refine (HCZ.out _).mono ?_); rintro e w' ⟨rfl, hb⟩; replace HK := Lib.hid (HK.out.after hb); replace HD1 := Lib.hid (HD1.out.kept hb); replace HD2 := Lib.hid (HD2.out.kept hb); clear hb)
      | (go_at_call 8; (refine (HCS.out _ _ _ _ [[a0, a1, a2, a3], [c0, c1, c2, c3]] _ rfl (HD1.out.kept ((Below.refl _ _).alloc (Nat.le_refl _) _)) (Dd.row (drow_new rfl HO1.out))).mono ?_); rintro e w' ⟨rfl, hb⟩; replace HK := Lib.hid ((HK.out.more _).after hb); replace HD2 := Lib.hid ((HD2.out.kept ((Below.refl _ _).alloc (Nat.le_refl _) _)).kept hb); clear hb HD1)
      | (go_at_call 8; (refine (HCS.out _ _ _ _ [[b0, b1, b2, b3], [c0, c1, c2, c3]] _ rfl (HD2.out.kept ((Below.refl _ _).alloc (Nat.le_refl _) _)) (Dd.row (drow_new rfl HO2.out))).mono ?_); rintro e w' ⟨rfl, hb⟩; replace HK := Lib.hid ((HK.out.more _).after hb); clear hb))
  all_goals
    go_wp2_with fail
    go_ret
    exact ⟨rfl, HK.out.be.plain⟩
end Go.Proofs.YtcjclbhkheogpaaDoor
