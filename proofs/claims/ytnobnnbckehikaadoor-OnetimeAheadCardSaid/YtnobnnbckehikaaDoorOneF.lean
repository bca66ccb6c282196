/- The public key of a seed: the contracts of onetime's Public and of the reference's. -/
import Derived.Test.YtnobnnbckehikaaDoorOneD
import Derived.Test.YtnobnnbckehikaaDoorOneE
import Derived.OwnWalk
import Derived.Deep.WholeRow
set_option linter.unusedVariables false
namespace Go.Proofs.YtnobnnbckehikaaDoor
open Go.RowKit

/-- The cells of a list of ends, and noughts up to 35 of them. -/
def endc (l : Dl) : Array Value := (mcs l ++ List.replicate (140 - 4 * l.length) (Value.int .u32 0)).toArray
theorem endc_full {l : Dl} (h : l.length = 35) : endc l = (mcs l).toArray := by simp [endc, h]
theorem endc_size {l : Dl} (ho : Oks l) (h : l.length ≤ 35) : (endc l).size = 140 := by
  simp [endc, cs_length ho]; omega
theorem infoZ : (Tryd.prog.info? 48).map (fun i => (i.zero, i.size)) = some (some (.agg (endc [])), 140) := by kernel_rfl
theorem zero48 (w : World) : (zeroValue 48).run Tryd.prog w = .ok (.agg (endc [])) w := (zero_of_info infoZ).1 w
theorem list_put (A B : List Value) (u0 u1 u2 u3 v0 v1 v2 v3 : Value) (n : Nat) (hn : A.length = n) :
    ((((A ++ u0 :: u1 :: u2 :: u3 :: B).set n v0).set (n + 1) v1).set (n + 2) v2).set (n + 3) v3 = A ++ v0 :: v1 :: v2 :: v3 :: B := by
  subst hn
  rw [List.set_append_right _ _ (Nat.le_refl _), List.set_append_right _ _ (by omega), List.set_append_right _ _ (by omega), List.set_append_right _ _ (by omega)]
  simp [show A.length + 1 - A.length = 1 by omega, show A.length + 2 - A.length = 2 by omega, show A.length + 3 - A.length = 3 by omega]
theorem four_zero {n : Nat} (h : 4 ≤ n) : List.replicate n (Value.int .u32 0) = .int .u32 0 :: .int .u32 0 :: .int .u32 0 :: .int .u32 0 :: List.replicate (n - 4) (Value.int .u32 0) := by
  obtain ⟨m, rfl⟩ : ∃ m, n = m + 4 := ⟨n - 4, by omega⟩
  rfl
theorem put_end {w : World} {b j : Nat} {t : TypeId} {l : Dl} (h : w.heap[b]? = some (.cells (endc l) t (0, 0))) (hl : l.length = j) (hj : j < 35) (ho : Oks l) (z0 z1 z2 z3 : Int) :
    ((((w.setCell ⟨b, j * 4, none⟩ (.int .u32 z0)).setCell ⟨b, j * 4 + 1, none⟩ (.int .u32 z1)).setCell ⟨b, j * 4 + 2, none⟩ (.int .u32 z2)).setCell ⟨b, j * 4 + 3, none⟩ (.int .u32 z3)).heap[b]? = some (.cells (endc (l ++ [[z0, z1, z2, z3]])) t (0, 0)) := by
  have e0 := heap_setCell_same w b (j * 4) _ t (.int .u32 z0) h
  have e1 := heap_setCell_same _ b (j * 4 + 1) _ t (.int .u32 z1) e0
  have e2 := heap_setCell_same _ b (j * 4 + 2) _ t (.int .u32 z2) e1
  have e3 := heap_setCell_same _ b (j * 4 + 3) _ t (.int .u32 z3) e2
  rw [e3]
  have key : ((((endc l).setIfInBounds (j * 4) (.int .u32 z0)).setIfInBounds (j * 4 + 1) (.int .u32 z1)).setIfInBounds (j * 4 + 2) (.int .u32 z2)).setIfInBounds (j * 4 + 3) (.int .u32 z3) = endc (l ++ [[z0, z1, z2, z3]]) := by
    apply Array.ext'
    simp only [endc, Array.toList_setIfInBounds, List.length_append, List.length_cons, List.length_nil, hl]
    rw [four_zero (n := 140 - 4 * j) (by omega), list_put _ _ _ _ _ _ _ _ _ _ _ (by rw [cs_length ho, hl]), cs_append, cs_one]
    simp [show 140 - 4 * j - 4 = 140 - 4 * (j + 1) by omega]
  rw [key]
theorem end_cells {w : World} {b j : Nat} {t : TypeId} {l : Dl} (h : w.heap[b]? = some (.cells (endc l) t (0, 0))) (hl : l.length = j) (hj : j < 35) (ho : Oks l) :
    (w.cell? ⟨b, j * 4, none⟩ = some (.int .u32 0) ∧ w.cell? ⟨b, j * 4 + 1, none⟩ = some (.int .u32 0) ∧ w.cell? ⟨b, j * 4 + 2, none⟩ = some (.int .u32 0) ∧ w.cell? ⟨b, j * 4 + 3, none⟩ = some (.int .u32 0)) ∧
    (w.frozen? ⟨b, j * 4, none⟩ = false ∧ w.frozen? ⟨b, j * 4 + 1, none⟩ = false ∧ w.frozen? ⟨b, j * 4 + 2, none⟩ = false ∧ w.frozen? ⟨b, j * 4 + 3, none⟩ = false) := by
  have hc := cs_length ho
  have at_ : ∀ i, i < 4 → w.cell? ⟨b, j * 4 + i, none⟩ = some (.int .u32 0) := by
    intro i hi
    rw [cell_of_row w b _ _ t (0, 0) h]
    simp only [endc, List.getElem?_toArray]
    rw [List.getElem?_append_right (by omega), List.getElem?_replicate, if_pos (by omega)]
  refine ⟨⟨at_ 0 (by omega), at_ 1 (by omega), at_ 2 (by omega), at_ 3 (by omega)⟩, ?_⟩
  simp [World.frozen?, h]
/-- A chain gone along by a new closure. -/
theorem step_at {x0 x1 x2 x3 y0 y1 y2 y3 z : Int} {n : Nat} (W : World) (hx : Ok4 [x0, x1, x2, x3]) (hz : z = (n : Int)) (hn : n ≤ 15) (hy : wk n [x0, x1, x2, x3] = [y0, y1, y2, y3]) (ht : Tabs W) :
    Calls Tryd.prog 35 #[.int .i64 z, .pointer (some ⟨W.heap.size, 0, none⟩)] (W.alloc (.cells #[.int .u32 x0, .int .u32 x1, .int .u32 x2, .int .u32 x3] 24)) fun e w' => e = .returned (.agg #[.int .u32 y0, .int .u32 y1, .int .u32 y2, .int .u32 y3]) ∧ Below W.heap.size W w' := by
  subst hz
  have hb : Below W.heap.size W (W.alloc (.cells #[.int .u32 x0, .int .u32 x1, .int .u32 x2, .int .u32 x3] 24)) := (Below.refl _ _).alloc (Nat.le_refl _) _
  refine (step_code [x0, x1, x2, x3] n W.heap.size _ hx hn (heap_alloc_new _ _) (ht.at.below hb)).mono ?_
  rintro e w' ⟨rfl, hq⟩
  rw [hy, ag4]
  exact ⟨rfl, hb.trans (hq.to (by simp) (fun k hk => by injection hk with hk; omega))⟩
/-- What Public, Reach have made so far. -/
def Kp3 (w W : World) (x : Ws) (l : Dl) : Prop := Kx none w W [(w.heap.size, .cells (x.map (Value.int .u32)).toArray 24 (0, 0)), (w.heap.size + 1, .cells #[.int .u32 0, .int .u32 0, .int .u32 0, .int .u32 0] 24 (0, 0)), (w.heap.size + 1 + 1, .cells (endc l) 48 (0, 0))]
theorem Kp3.put {w W : World} {x : Ws} {l : Dl} (h : Kp3 w W x l) {j : Nat} (hl : l.length = j) (hj : j < 35) (ho : Oks l) (z0 z1 z2 z3 : Int) :
    Kp3 w ((((W.setCell ⟨w.heap.size + 1 + 1, j * 4, none⟩ (.int .u32 z0)).setCell ⟨w.heap.size + 1 + 1, j * 4 + 1, none⟩ (.int .u32 z1)).setCell ⟨w.heap.size + 1 + 1, j * 4 + 2, none⟩ (.int .u32 z2)).setCell ⟨w.heap.size + 1 + 1, j * 4 + 3, none⟩ (.int .u32 z3)) x (l ++ [[z0, z1, z2, z3]]) :=
  h.afterq 2 rfl (.inr (by omega)) (((((Bx.rfl_ _ _).setn _ _).setn _ _).setn _ _).setn _ _) (put_end (h.at 2 rfl) hl hj ho z0 z1 z2 z3)
set_option maxRecDepth 100000 in
set_option maxHeartbeats 4000000 in
theorem public_code (seed : Ws) (w : World) (hs : Ok4 seed) (ht : Tabs w) :
    Calls Tryd.prog 14 #[ag seed] w fun e w' => e = .returned (ag (pubk seed)) ∧ Below w.heap.size w w' := by
  have o := pubk_ok hs
  have c1 := fun i w hi ht => beginning_code seed i w hs hi ht
  have c2 := fun w ht => publicOf_code (upto (ens seed) 35) w (upto_ok fun i hi => ens_ok hs hi) (upto_length _ _) ht
  have he := fun (i : Nat) (hi : i < 35) => ok4 (ens_ok hs (i := i) hi)
  have hbo := fun (i : Nat) (hi : i < 35) => bgn_ok hs (i := i) (by omega)
  have huo : ∀ j, j ≤ 35 → Oks (upto (ens seed) j) := fun j hj => upto_ok fun i hi => ens_ok hs (by omega)
  have HE := Lib.hid he
  have HBO := Lib.hid hbo
  have HUO := Lib.hid huo
  change Calls _ _ _ _ fun e w' => e = .returned (ag (pof (upto (ens seed) 35))) ∧ _
  change Ok4 (pof (upto (ens seed) 35)) at o
  obtain ⟨p0, p1, p2, p3, ep, _⟩ := ok4 o
  rw [ep] at c2 ⊢
  obtain ⟨x0, x1, x2, x3, ex, _⟩ := ok4 hs
  rw [show ag seed = .agg #[.int .u32 x0, .int .u32 x1, .int .u32 x2, .int .u32 x3] by rw [ex, ag4]] at c1 ⊢
  rw [ag4] at c2 ⊢
  have C1 := Lib.hid c1
  have C2 := Lib.hid c2
  have HT := Lib.hid ht
  have z48 := zero48
  have HK0 : Hid (Kp3 w (((w.alloc (.cells #[.int .u32 x0, .int .u32 x1, .int .u32 x2, .int .u32 x3] 24)).alloc (.cells #[.int .u32 0, .int .u32 0, .int .u32 0, .int .u32 0] 24)).alloc (.cells (endc []) 48)) [x0, x1, x2, x3] []) :=
    Lib.hid ((((Kx.nil none w).more (.cells #[.int .u32 x0, .int .u32 x1, .int .u32 x2, .int .u32 x3] 24 (0, 0))).add (w.heap.size + 1) (by simp) (.cells #[.int .u32 0, .int .u32 0, .int .u32 0, .int .u32 0] 24 (0, 0))).add (w.heap.size + 1 + 1) (by simp) (.cells (endc []) 48 (0, 0)))
  clear c1 c2 ht he hbo huo o ep ex hs
  go_enter Tryd.func14, Tryd.ntmps14
  go_wp2_with fail
  go_loopw [5] (fun v wr => ∃ j : Nat, j ≤ 35 ∧ v = .int .i64 (j : Int) ∧ Hid (Kp3 w wr [x0, x1, x2, x3] (upto (ens seed) j))) (fun v _ => 35 - (intOf v).toNat)
  case atStart => exact ⟨0, Nat.zero_le _, rfl, HK0⟩
  case round =>
    obtain ⟨j, hj, rfl, HK⟩ := hrel
    by_cases hlt : j < 35
    · have i0 : (0 : Int) ≤ (j : Int) := by omega
      have i1 : (j : Int) < 35 := by omega
      obtain ⟨z0, z1, z2, z3, ez, _⟩ := HE.out j hlt
      have ob := HBO.out j hlt
      have c1 := fun w ht => C1.out j w hlt ht
      obtain ⟨b0, b1, b2, b3, eb, _⟩ := ok4 ob
      rw [eb, ag4] at c1
      rw [eb] at ob
      have ew : wk 15 [b0, b1, b2, b3] = [z0, z1, z2, z3] := by rw [← eb]; exact ez
      have CB := Lib.hid c1
      have CW := Lib.hid (fun W ht => step_at (z := 15) (n := 15) W ob rfl (by omega) ew ht)
      have HZ : Hid (upto (ens seed) (j + 1) = upto (ens seed) j ++ [[z0, z1, z2, z3]]) := Lib.hid (by rw [upto_succ, ez])
      clear c1 ob eb ew ez
      obtain ⟨a0, a1, a2, a3, _⟩ := cells4 (HK.out.at 0 rfl)
      go_wp2_with fail
      refine (CB.out _ (HT.out.oldn HK.out)).mono ?_
      rintro e w1 ⟨rfl, hb⟩
      replace HK : Hid (Kp3 w w1 [x0, x1, x2, x3] (upto (ens seed) j)) := Lib.hid (HK.out.after hb)
      clear hb a0 a1 a2 a3
      go_wp2_with fail
      refine (walk_made _ _ _ _ _).mono ?_
      rintro e w2 ⟨rfl, rfl⟩
      go_wp2_with fail
      refine (CW.out _ (HT.out.oldn HK.out)).mono ?_
      rintro e w3 ⟨rfl, hb⟩
      replace HK : Hid (Kp3 w w3 [x0, x1, x2, x3] (upto (ens seed) j)) := Lib.hid (HK.out.after hb)
      clear hb
      obtain ⟨⟨a0, a1, a2, a3⟩, ⟨d0, d1, d2, d3⟩⟩ := end_cells (HK.out.at 2 rfl) (upto_length _ _) hlt (HUO.out j hj)
      have hk2 := HK.out.put (upto_length _ _) hlt (HUO.out j hj) z0 z1 z2 z3
      rw [← HZ.out] at hk2
      have HK2 := Lib.hid hk2
      clear hk2
      go_wp2_with fail
      go_roundw
      case rel => exact ⟨j + 1, by omega, by go_num, HK2⟩
      case measure => simp [intOf]; omega
    · obtain rfl : j = 35 := by omega
      have hsz : (Tryd.prog.info? 48).map (·.size) = some (endc (upto (ens seed) 35)).size := by rw [infoA, endc_size (HUO.out 35 (Nat.le_refl _)) (by rw [upto_length]; omega)]
      have HS := Lib.hid hsz
      have HF := Lib.hid (endc_full (upto_length (ens seed) 35))
      clear hsz
      go_wp2_with fail
      refine wp_load_row 48 _ rfl (w.heap.size + 1 + 1) rfl 48 (endc (upto (ens seed) 35)) (0, 0) _ (HK.out.at 2 rfl) Tryd.underlying48 rfl HS.out ?_
      rw [HF.out]
      go_wp2_with fail
      refine (C2.out _ (HT.out.oldn HK.out)).mono ?_
      rintro e w1 ⟨rfl, hb⟩
      replace HK : Hid (Kp3 w w1 [x0, x1, x2, x3] (upto (ens seed) 35)) := Lib.hid (HK.out.after hb)
      clear hb
      obtain ⟨b0, b1, b2, b3, d0, d1, d2, d3⟩ := cells4 (HK.out.at 1 rfl)
      have HR := Lib.hid (row4 (HK.out.at 1 rfl) (.int .u32 p0) (.int .u32 p1) (.int .u32 p2) (.int .u32 p3))
      have HE := Lib.hid (HK.out.put4 1 rfl (.inr (by omega)) (.int .u32 p0) (.int .u32 p1) (.int .u32 p2) (.int .u32 p3)).be.plain
      go_wp2_with fail
      exact bodyPost_ret (v := .agg #[.int .u32 p0, .int .u32 p1, .int .u32 p2, .int .u32 p3]) (by
        obtain ⟨k0, k1, k2, k3, _⟩ := cells4 HR.out
        simp [results, go_sem, k0, k1, k2, k3]) rfl ⟨rfl, HE.out⟩
end Go.Proofs.YtnobnnbckehikaaDoor
