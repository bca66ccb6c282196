/- The public key of a seed: the contract of the reference's Public. -/
import Derived.Test.YtnobnnbckehikaaDoorOneF
set_option linter.unusedVariables false
namespace Go.Proofs.YtnobnnbckehikaaDoor
open Go.RowKit

theorem own_shape4 {w : World} {B e n : Nat} {v : Value} {xs : List Value} (h : w.ownsRow B e 4 v n xs) (hn : 0 < n) :
    ∃ g cap, v = .slice (some ⟨g, 0, none⟩) n cap ∧ B ≤ g ∧ n ≤ cap ∧ cap ≤ maxLen := by
  obtain ⟨_, h | ⟨g, cap, cur, hv, hg, _, h3, h4, _⟩⟩ := h
  · omega
  · exact ⟨g, cap, hv, hg, by omega, by omega⟩
/-- What the reference's Public, Sign have made so far. -/
def Ks (w W : World) (x : Ws) : Prop := Kx none w W [(w.heap.size, .cells (x.map (Value.int .u32)).toArray 24 (0, 0)), (w.heap.size + 1, .cells #[.int .u32 0, .int .u32 0, .int .u32 0, .int .u32 0] 24 (0, 0))]
theorem Kx.grow {w W W' : World} {bs : List (Nat × Obj)} (h : Kx none w W bs) {row : Option Nat} (hg : W.grownBy W' row) (hr : ∀ g, row = some g → w.heap.size ≤ g ∧ ∀ x ∈ bs, x.1 ≠ g) : Kx none w W' bs := by
  refine ⟨fun x hx => ?_, h.nd, Bx.of (h.be.plain.grown hg h.be.size fun g hk => (hr g hk).1)⟩
  obtain ⟨h1, h2⟩ := h.all x hx
  have e : W'.heap[x.1]? = W.heap[x.1]? := hg.block _ h2 (fun e => (hr x.1 e.symm).2 x hx rfl)
  exact ⟨by rw [e]; exact h1, by have := hg.size; omega⟩
theorem Ks.grow {w W W' : World} {x : Ws} (h : Ks w W x) (c : Obj) {row : Option Nat} (hg : (W.alloc c).grownBy W' row) (hr : ∀ g, row = some g → w.heap.size + 2 ≤ g) : Ks w W' x := by
  have h2 : Ks w (W.alloc c) x := (h.more c).first 2
  refine Kx.grow h2 hg (fun g hk => ⟨by have := hr g hk; omega, fun y hy => ?_⟩)
  have := hr g hk
  simp only [List.mem_cons, List.not_mem_nil, or_false] at hy
  rcases hy with rfl | rfl <;> simp <;> omega
theorem upto_cells (f : Nat → Ws) (j : Nat) {z0 z1 z2 z3 : Int} (h : f j = [z0, z1, z2, z3]) : mcs (upto f (j + 1)) = mcs (upto f j) ++ [.int .u32 z0, .int .u32 z1, .int .u32 z2, .int .u32 z3] := by rw [upto_succ, h, mcs_snoc]
set_option maxRecDepth 100000 in
set_option maxHeartbeats 4000000 in
theorem public_ref (seed : Ws) (w : World) (hs : Ok4 seed) :
    Calls Tryd.prog 15 #[ag seed] w fun e w' => e = .returned (ag (pubk seed)) ∧ Below w.heap.size w w' := by
  have o := pubk_ok hs
  have c1 := fun i w hi => begin_ref seed i w hs hi
  have c2 := fun b cap w hr => ofr_row (upto (ens seed) 35) b 0 cap w (upto_length _ _) hr
  have he := fun (i : Nat) (hi : i < 35) => ok4 (ens_ok hs (i := i) hi)
  have hbo := fun (i : Nat) (hi : i < 35) => bgn_ok hs (i := i) (by omega)
  have huo : ∀ j, j ≤ 35 → Oks (upto (ens seed) j) := fun j hj => upto_ok fun i hi => ens_ok hs (by omega)
  have HE := Lib.hid he
  have HBO := Lib.hid hbo
  have HUO := Lib.hid huo
  change Calls _ _ _ _ fun e w' => e = .returned (ag (pof (upto (ens seed) 35))) ∧ _
  change Ok4 (pof (upto (ens seed) 35)) at o
  obtain ⟨p0, p1, p2, p3, ep, _⟩ := ok4 o
  rw [ep] at c2 ⊢
  obtain ⟨x0, x1, x2, x3, ex, _⟩ := ok4 hs
  rw [show ag seed = .agg #[.int .u32 x0, .int .u32 x1, .int .u32 x2, .int .u32 x3] by rw [ex, ag4]] at c1 ⊢
  rw [ag4] at c2 ⊢
  have C1 := Lib.hid c1
  have C2 := Lib.hid c2
  have HK0 : Hid (Ks w ((w.alloc (.cells #[.int .u32 x0, .int .u32 x1, .int .u32 x2, .int .u32 x3] 24)).alloc (.cells #[.int .u32 0, .int .u32 0, .int .u32 0, .int .u32 0] 24)) [x0, x1, x2, x3]) :=
    Lib.hid (((Kx.nil none w).more (.cells #[.int .u32 x0, .int .u32 x1, .int .u32 x2, .int .u32 x3] 24 (0, 0))).add (w.heap.size + 1) (by simp) (.cells #[.int .u32 0, .int .u32 0, .int .u32 0, .int .u32 0] 24 (0, 0)))
  obtain ⟨q0, hz, hz0, hz1, hz2⟩ := info_parts infoDg
  clear c1 c2 he hbo huo o ep ex hs
  go_enter Tryd.func15, Tryd.ntmps15
  go_wp2_with fail
  go_loopw [3, 4] (fun out v wr => ∃ j : Nat, j ≤ 35 ∧ v = .int .i64 (j : Int) ∧ Hid (Ks w wr [x0, x1, x2, x3]) ∧ Hid (wr.ownsRow (w.heap.size + 2) 24 4 out j (mcs (upto (ens seed) j)))) (fun _ v _ => 35 - (intOf v).toNat)
  case atStart => exact ⟨0, Nat.zero_le _, rfl, HK0, World.ownsRow_nil _ _ _ _⟩
  case round =>
    obtain ⟨j, hj, rfl, HK, HO⟩ := hrel
    by_cases hlt : j < 35
    · have i0 : (0 : Int) ≤ (j : Int) := by omega
      have i1 : (j : Int) < 35 := by omega
      obtain ⟨z0, z1, z2, z3, ez, _⟩ := HE.out j hlt
      have ob := HBO.out j hlt
      have c1 := fun w => C1.out j w hlt
      obtain ⟨b0, b1, b2, b3, eb, _⟩ := ok4 ob
      rw [eb, ag4] at c1
      rw [eb] at ob
      have cw := fun W => walk_ref [b0, b1, b2, b3] 15 W ob (by omega)
      rw [show wk 15 [b0, b1, b2, b3] = [z0, z1, z2, z3] by rw [← eb]; exact ez, ag4, ag4] at cw
      have CB := Lib.hid c1
      have CW : Hid (∀ W : World, Calls Tryd.prog 24 #[.agg #[.int .u32 b0, .int .u32 b1, .int .u32 b2, .int .u32 b3], .int .i64 15] W fun e w' => e = .returned (.agg #[.int .u32 z0, .int .u32 z1, .int .u32 z2, .int .u32 z3]) ∧ Below W.heap.size W w') := Lib.hid cw
      have HZ := Lib.hid (upto_cells (ens seed) j ez)
      clear c1 cw ob eb ez
      obtain ⟨a0, a1, a2, a3, _⟩ := cells4 (HK.out.at 0 rfl)
      go_wp2_with fail
      refine (CB.out _).mono ?_
      rintro e w1 ⟨rfl, hb⟩
      replace HK : Hid (Ks w w1 [x0, x1, x2, x3]) := Lib.hid (HK.out.after hb)
      replace HO := Lib.hid (own_keep HO.out hb)
      clear hb a0 a1 a2 a3
      go_wp2_with fail
      refine (CW.out _).mono ?_
      rintro e w3 ⟨rfl, hb⟩
      replace HK : Hid (Ks w w3 [x0, x1, x2, x3]) := Lib.hid (HK.out.after hb)
      replace HO := Lib.hid (own_keep HO.out hb)
      clear hb
      go_wp2_with (at_builtin; refine wpList_append_own _ rfl _ _ 32 rfl (w.heap.size + 2) 24 q0 _ 4 16 Tryd.underlying32 hz hz0 hz1 hz2 rfl (by decide) _ _ _ rfl (HO.out.alloc _) ⟨w3.heap.size, 0, none⟩ 1 1 [.int .u32 z0, .int .u32 z1, .int .u32 z2, .int .u32 z3] rfl rfl (World.news_of_block (cs := #[.int .u32 z0, .int .u32 z1, .int .u32 z2, .int .u32 z3]) (t := 24) (fr := (0, 0)) (heap_alloc_new w3 _)) (by simp [Value.oneCell']) ?c3 ?c4 ?c5 ?_)
      case c3 => unfold maxLen; omega
      case c4 => omega
      case c5 => have := HK.out.lt 1 rfl; simp; omega
      intro v' w4 hown1 hgrow1 _
      rw [← HZ.out] at hown1
      have HO2 := Lib.hid hown1
      have HK2 := Lib.hid (HK.out.grow _ hgrow1 (fun g hg => (HO.out.lt g hg).1))
      clear hown1 hgrow1
      go_wp2
      go_roundw
      case rel => exact ⟨j + 1, by omega, by go_num, HK2, HO2⟩
      case measure => simp [intOf]; omega
    · obtain rfl : j = 35 := by omega
      obtain ⟨g, cap, rfl, hg, _⟩ := own_shape4 HO.out (by omega)
      have HD := Lib.hid (DRow.own HO.out (HUO.out 35 (Nat.le_refl _)))
      go_wp2_with fail
      refine (C2.out _ _ _ HD.out).mono ?_
      rintro e w1 ⟨rfl, hb⟩
      replace HK : Hid (Ks w w1 [x0, x1, x2, x3]) := Lib.hid (HK.out.after hb)
      clear hb
      obtain ⟨b0, b1, b2, b3, d0, d1, d2, d3⟩ := cells4 (HK.out.at 1 rfl)
      have HR := Lib.hid (row4 (HK.out.at 1 rfl) (.int .u32 p0) (.int .u32 p1) (.int .u32 p2) (.int .u32 p3))
      have HE := Lib.hid (HK.out.put4 1 rfl (.inr (by omega)) (.int .u32 p0) (.int .u32 p1) (.int .u32 p2) (.int .u32 p3)).be.plain
      go_wp2_with fail
      exact bodyPost_ret (v := .agg #[.int .u32 p0, .int .u32 p1, .int .u32 p2, .int .u32 p3]) (by
        obtain ⟨k0, k1, k2, k3, _⟩ := cells4 HR.out
        simp [results, go_sem, k0, k1, k2, k3]) rfl ⟨rfl, HE.out⟩
end Go.Proofs.YtnobnnbckehikaaDoor
