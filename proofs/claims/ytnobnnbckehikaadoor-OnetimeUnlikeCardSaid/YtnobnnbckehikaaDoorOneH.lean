/- A signature: the contract of onetime's Sign. -/
import Derived.Test.YtnobnnbckehikaaDoorOneC
import Derived.Test.YtnobnnbckehikaaDoorOneG
set_option linter.unusedVariables false
namespace Go.Proofs.YtnobnnbckehikaaDoor
open Go.RowKit

/-- What Sign gives. -/
def DgE (w : World) (l : Dl) (e : Ending) (w' : World) : Prop := ∃ g cap, e = .returned (.slice (some ⟨g, 0, none⟩) 35 cap) ∧ 35 ≤ cap ∧ cap ≤ maxLen ∧ DRow w' g 0 l ∧ w.heap.size ≤ g ∧ Below w.heap.size w w'
/-- Seed and message stand in a call's first blocks. -/
def Km (w W : World) (x y : Ws) : Prop := Kx none w W [(w.heap.size, .cells (x.map (Value.int .u32)).toArray 24 (0, 0)), (w.heap.size + 1, .cells (y.map (Value.int .u32)).toArray 24 (0, 0))]
theorem Km.grow0 {w W W' : World} {x y : Ws} (h : Km w W x y) {row : Option Nat} (hg : W.grownBy W' row) (hr : ∀ g, row = some g → w.heap.size + 2 ≤ g) : Km w W' x y := by
  refine Kx.grow h hg (fun g hk => ⟨by have := hr g hk; omega, fun z hz => ?_⟩)
  have := hr g hk
  simp only [List.mem_cons, List.not_mem_nil, or_false] at hz
  rcases hz with rfl | rfl <;> simp <;> omega
theorem Km.grow {w W W' : World} {x y : Ws} (h : Km w W x y) (c : Obj) {row : Option Nat} (hg : (W.alloc c).grownBy W' row) (hr : ∀ g, row = some g → w.heap.size + 2 ≤ g) : Km w W' x y :=
  Km.grow0 ((h.more c).first 2 : Km w (W.alloc c) x y) hg hr
set_option maxRecDepth 100000 in
set_option maxHeartbeats 4000000 in
theorem sign_code (seed msg : Ws) (w : World) (hs : Ok4 seed) (hm : Ok4 msg) (ht : Tabs w) :
    Calls Tryd.prog 17 #[ag seed, ag msg] w (DgE w (sgn seed msg)) := by
  have c1 := fun i w hi ht => beginning_code seed i w hs hi ht
  have c2 := fun w => steps_code msg w hm
  have he := fun (i : Nat) (hi : i < 35) => ok4 (sgi_ok hs (msg := msg) (i := i) hi)
  have hbo := fun (i : Nat) (hi : i < 35) => bgn_ok hs (i := i) (by omega)
  have huo : ∀ j, j ≤ 35 → Oks (upto (sgi seed msg) j) := fun j hj => upto_ok fun i hi => sgi_ok hs (by omega)
  have hn := nms_get msg
  have hnl := nms_length hm
  have HE := Lib.hid he
  have HBO := Lib.hid hbo
  have HUO := Lib.hid huo
  have HN := Lib.hid hn
  have HNL := Lib.hid hnl
  obtain ⟨x0, x1, x2, x3, ex, _⟩ := ok4 hs
  obtain ⟨y0, y1, y2, y3, ey, _⟩ := ok4 hm
  rw [show ag seed = .agg #[.int .u32 x0, .int .u32 x1, .int .u32 x2, .int .u32 x3] by rw [ex, ag4]] at c1 ⊢
  rw [show ag msg = .agg #[.int .u32 y0, .int .u32 y1, .int .u32 y2, .int .u32 y3] by rw [ey, ag4]] at c2 ⊢
  have C1 := Lib.hid c1
  have C2 := Lib.hid c2
  have HT := Lib.hid ht
  have HK0 : Hid (Km w ((w.alloc (.cells #[.int .u32 x0, .int .u32 x1, .int .u32 x2, .int .u32 x3] 24)).alloc (.cells #[.int .u32 y0, .int .u32 y1, .int .u32 y2, .int .u32 y3] 24)) [x0, x1, x2, x3] [y0, y1, y2, y3]) :=
    Lib.hid (((Kx.nil none w).more (.cells #[.int .u32 x0, .int .u32 x1, .int .u32 x2, .int .u32 x3] 24 (0, 0))).add (w.heap.size + 1) (by simp) (.cells #[.int .u32 y0, .int .u32 y1, .int .u32 y2, .int .u32 y3] 24 (0, 0)))
  obtain ⟨q0, hz, hz0, hz1, hz2⟩ := info_parts infoDg
  clear c1 c2 he hbo huo hn hnl ex ey hs hm ht
  go_enter Tryd.func17, Tryd.ntmps17
  go_wp2_with (at_make; refine wpList_make_own _ rfl _ _ 33 rfl (w.heap.size + 2) 24 q0 _ 4 Tryd.underlying33 hz hz0 hz1 _ _ _ 35 rfl rfl (by omega) ?b2 ?b3 ?b4 ?_)
  case b2 => rw [hz2]; omega
  case b3 => unfold maxLen; omega
  case b4 => simp
  intro w0 hown0 hgrow0
  have HO := Lib.hid hown0
  have HK := Lib.hid (HK0.out.grow0 hgrow0 (fun k hk => by cases hk))
  clear hown0 hgrow0
  obtain ⟨m0, m1, m2, m3, _⟩ := cells4 (HK.out.at 1 rfl)
  go_wp2_with fail
  refine (C2.out _).mono ?_
  rintro e w1 ⟨g1, c1, rfl, _, _, hir, _, hb⟩
  have HI := Lib.hid hir
  replace HK : Hid (Km w w1 [x0, x1, x2, x3] [y0, y1, y2, y3]) := Lib.hid (HK.out.after hb)
  replace HO := Lib.hid (own_keep HO.out hb)
  clear hb hir m0 m1 m2 m3
  go_wp2_with fail
  go_loopw [5, 12] (fun out v wr => ∃ j : Nat, j ≤ 35 ∧ v = .int .i64 (j : Int) ∧ Hid (Km w wr [x0, x1, x2, x3] [y0, y1, y2, y3]) ∧ Hid (wr.ownsRow (w.heap.size + 2) 24 4 out j (mcs (upto (sgi seed msg) j))) ∧ Hid (IRow wr g1 (nms msg))) (fun _ v _ => 35 - (intOf v).toNat)
  case atStart => exact ⟨0, Nat.zero_le _, rfl, HK, HO, HI⟩
  case round =>
    obtain ⟨j, hj, rfl, HK, HO, HI⟩ := hrel
    by_cases hlt : j < 35
    · have i0 : (0 : Int) ≤ (j : Int) := by omega
      have i1 : (j : Int) < 35 := by omega
      obtain ⟨z0, z1, z2, z3, ez, _⟩ := HE.out j hlt
      have ob := HBO.out j hlt
      have c1 := fun w ht => C1.out j w hlt ht
      obtain ⟨b0, b1, b2, b3, eb, _⟩ := ok4 ob
      rw [eb, ag4] at c1
      rw [eb] at ob
      have hd := HN.out j
      have hc := HI.out.at_ j (by rw [HNL.out]; exact hlt)
      have ew : wk ((nms msg).getD j 0) [b0, b1, b2, b3] = [z0, z1, z2, z3] := by rw [← eb]; exact ez
      obtain ⟨d, ed⟩ : ∃ d, (nms msg).getD j 0 = d := ⟨_, rfl⟩
      rw [ed] at hd hc ew
      have CB := Lib.hid c1
      have CW := Lib.hid (fun W ht => step_at (z := (d : Int)) (n := d) W ob rfl (by omega) ew ht)
      have HZ := Lib.hid (upto_cells (sgi seed msg) j ez)
      clear c1 ob eb ew ez ed
      obtain ⟨a0, a1, a2, a3, _⟩ := cells4 (HK.out.at 0 rfl)
      go_wp2_with fail
      refine (CB.out _ (HT.out.oldn HK.out)).mono ?_
      rintro e w2 ⟨rfl, hb⟩
      replace HK : Hid (Km w w2 [x0, x1, x2, x3] [y0, y1, y2, y3]) := Lib.hid (HK.out.after hb)
      replace HO := Lib.hid (own_keep HO.out hb)
      replace HI := Lib.hid (HI.out.kept hb)
      clear hb a0 a1 a2 a3
      go_wp2_with fail
      refine (walk_made _ _ _ _ _).mono ?_
      rintro e w3 ⟨rfl, rfl⟩
      go_wp2_with fail
      refine (CW.out _ (HT.out.oldn HK.out)).mono ?_
      rintro e w3 ⟨rfl, hb⟩
      replace HK : Hid (Km w w3 [x0, x1, x2, x3] [y0, y1, y2, y3]) := Lib.hid (HK.out.after hb)
      replace HO := Lib.hid (own_keep HO.out hb)
      replace HI := Lib.hid (HI.out.kept hb)
      clear hb
      go_wp2_with (at_builtin; refine wpList_append_own _ rfl _ _ 33 rfl (w.heap.size + 2) 24 q0 _ 4 16 Tryd.underlying33 hz hz0 hz1 hz2 rfl (by decide) _ _ _ rfl (HO.out.alloc _) ⟨w3.heap.size, 0, none⟩ 1 1 [.int .u32 z0, .int .u32 z1, .int .u32 z2, .int .u32 z3] rfl rfl (World.news_of_block (cs := #[.int .u32 z0, .int .u32 z1, .int .u32 z2, .int .u32 z3]) (t := 24) (fr := (0, 0)) (heap_alloc_new w3 _)) (by simp [Value.oneCell']) ?c3 ?c4 ?c5 ?_)
      case c3 => unfold maxLen; omega
      case c4 => omega
      case c5 => have := HK.out.lt 1 rfl; simp; omega
      intro v' w4 hown1 hgrow1 _
      rw [← HZ.out] at hown1
      have HO2 := Lib.hid hown1
      have HK2 := Lib.hid (HK.out.grow _ hgrow1 (fun g hg => (HO.out.lt g hg).1))
      have HI2 := Lib.hid ((HI.out.kept ((Below.refl _ _).alloc (Nat.le_refl _) _)).grow hgrow1 (e := 24) (by decide) (own_ty (HO.out.alloc _)))
      clear hown1 hgrow1
      go_wp2
      go_roundw
      case rel => exact ⟨j + 1, by omega, by go_num, HK2, HO2, HI2⟩
      case measure => simp [intOf]; omega
    · obtain rfl : j = 35 := by omega
      obtain ⟨g, cap, rfl, hg, h1, h2⟩ := own_shape4 HO.out (by omega)
      have HD := Lib.hid (DRow.own HO.out (HUO.out 35 (Nat.le_refl _)))
      go_wp2_with fail
      go_ret
      exact ⟨g, cap, rfl, h1, h2, HD.out, by omega, HK.out.be.plain⟩
end Go.Proofs.YtnobnnbckehikaaDoor
