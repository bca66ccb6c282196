/- Layer 7's own code: Text. -/
import Derived.Test.YtihgkmjlefaaoaaDoorInsP
import Derived.Test.YtihgkmjlefaaoaaDoorInsD
import Derived.Test.YtihgkmjlefaaoaaDoorKxT
import Derived.Deep.RegionHeld3
set_option linter.unusedVariables false
namespace Go.Proofs.YtihgkmjlefaaoaaDoor
open Go.RowKit

/-- The parts of a text, as the code gathers them. -/
def pgs (op a b c : Int) : List ByteArray := ([] ++ pps (mxa op) a) ++ pps (mxb op) b ++ pps (mxc op) c
theorem pcl_kinds : ∀ k, k < 27 → pcl.getD k [] = [97, 99] ∨ pcl.getD k [] = [97, 98] ∨ pcl.getD k [] = [97, 98, 114] ∨ pcl.getD k [] = [97, 98, 99] ∨ pcl.getD k [] = [99] ∨ pcl.getD k [] = [97] ∨ pcl.getD k [] = [] := by decide
theorem txi_parts {op a b c : Int} (h : 1 ≤ op ∧ op ≤ 27) : (pgs op a b c = [] ∧ txi op a b c = nam op) ∨
    (pgs op a b c ≠ [] ∧ txi op a b c = nam op ++ [32] ++ Lib.join ((pgs op a b c).map (·.data.toList)) [44, 32]) := by
  have hp : prt op = pcl.getD (op.toNat - 1) [] := if_pos h
  have hk := pcl_kinds (op.toNat - 1) (by omega)
  rw [← hp] at hk
  clear hp
  unfold pgs mxa mxb mxc mst txi
  rcases hk with hp | hp | hp | hp | hp | hp | hp
  all_goals rw [hp]
  · right; refine ⟨by simp [hsc, pps], ?_⟩
    simp [hsc, pps, Lib.join_cons, Lib.joinTail, fls, fds, fld]
  · right; refine ⟨by simp [hsc, pps], ?_⟩
    simp [hsc, pps, Lib.join_cons, Lib.joinTail, fls, fds, fld]
  · right; refine ⟨by simp [hsc, pps], ?_⟩
    simp [hsc, pps, Lib.join_cons, Lib.joinTail, fls, fds, fld]
  · right; refine ⟨by simp [hsc, pps], ?_⟩
    simp [hsc, pps, Lib.join_cons, Lib.joinTail, fls, fds, fld]
  · right; refine ⟨by simp [hsc, pps], ?_⟩
    simp [hsc, pps, Lib.join_cons, Lib.joinTail, fls, fds, fld]
  · right; refine ⟨by simp [hsc, pps], ?_⟩
    simp [hsc, pps, Lib.join_cons, Lib.joinTail, fls, fds, fld]
  · left; refine ⟨by simp [hsc, pps], ?_⟩
    simp [fls]
theorem pps_le (g x : Int) : (pps g x).length ≤ 1 := by
  unfold pps
  split
  · simp
  · split <;> simp
/-- Two structs lie there: an instruction, and what its operation's row says. -/
structure Tx (W : World) (p q : Nat) (op a b c : Int) (S : ByteArray) (ma mb mc : Int) : Prop where
  i0 : W.cell? ⟨p, 0, none⟩ = some (.int .i64 op)
  i1 : W.cell? ⟨p, 1, none⟩ = some (.int .i64 a)
  i2 : W.cell? ⟨p, 2, none⟩ = some (.int .i64 b)
  i3 : W.cell? ⟨p, 3, none⟩ = some (.int .i64 c)
  o0 : W.cell? ⟨q, 0, none⟩ = some (.string S)
  o1 : W.cell? ⟨q, 1, none⟩ = some (.int .i64 ma)
  o2 : W.cell? ⟨q, 2, none⟩ = some (.int .i64 mb)
  o3 : W.cell? ⟨q, 3, none⟩ = some (.int .i64 mc)
theorem Tx.after {W W' : World} {B p q : Nat} {op a b c : Int} {S : ByteArray} {ma mb mc : Int} (h : Tx W p q op a b c S ma mb mc) (hb : Below B W W') (hp : p < B) (hq : q < B) : Tx W' p q op a b c S ma mb mc :=
  ⟨(hb.cell hp).trans h.i0, (hb.cell hp).trans h.i1, (hb.cell hp).trans h.i2, (hb.cell hp).trans h.i3, (hb.cell hq).trans h.o0, (hb.cell hq).trans h.o1, (hb.cell hq).trans h.o2, (hb.cell hq).trans h.o3⟩
set_option maxRecDepth 100000 in
set_option maxHeartbeats 4000000 in
theorem text_right (op a b c : Int) (w : World) (hr : rgt op a b c = true) (ht : Tabs w) :
    Calls Tryd.prog 14 #[.agg #[.int .i64 op, .int .i64 a, .int .i64 b, .int .i64 c]] w fun e w' => e = .returned (.string ⟨(txi op a b c).toArray⟩) ∧ Below w.heap.size w w' := by
  have hbd := rgt_bounds hr
  have hlen := txi_len (op := op) (a := a) (b := b) (c := c) (by omega) (by omega) (by omega)
  have htp := txi_parts (a := a) (b := b) (c := c) hbd.1
  have hpl1 := pps_le (mxa op) a
  have hpl2 := pps_le (mxb op) b
  have hpl3 := pps_le (mxc op) c
  have c1 := fun w ht => right_code op a b c w ht
  rw [hr] at c1
  obtain ⟨k, rfl⟩ : ∃ k : Nat, op = (k : Int) := ⟨op.toNat, by omega⟩
  have kc := fun (W : World) (h : Tabs W) => h.opr_cells k (by omega)
  obtain ⟨NM, hNM⟩ : ∃ S : ByteArray, ⟨(nam (k : Int)).toArray⟩ = S := ⟨_, rfl⟩
  have hNl : nam (k : Int) = NM.data.toList := by rw [← hNM]
  rw [hNM] at kc
  unfold pgs at htp
  obtain ⟨ma, hma⟩ : ∃ m, mxa (k : Int) = m := ⟨_, rfl⟩
  obtain ⟨mb, hmb⟩ : ∃ m, mxb (k : Int) = m := ⟨_, rfl⟩
  obtain ⟨mc, hmc⟩ : ∃ m, mxc (k : Int) = m := ⟨_, rfl⟩
  rw [hma] at kc htp hpl1
  rw [hmb] at kc htp hpl2
  rw [hmc] at kc htp hpl3
  have ca := fun B v w hown hB ht => app_code B v [] a ma w (by omega) (by omega) (by simp) hown hB ht
  have cb := fun B v w hown hB ht => app_code B v ([] ++ pps ma a) b mb w (by omega) (by omega) (by simp; omega) hown hB ht
  have cc := fun B v w hown hB ht => app_code B v ([] ++ pps ma a ++ pps mb b) c mc w (by omega) (by omega) (by simp; omega) hown hB ht
  obtain ⟨P1, hP1⟩ : ∃ P, [] ++ pps ma a = P := ⟨_, rfl⟩
  rw [hP1] at ca cb cc htp
  obtain ⟨P2, hP2⟩ : ∃ P, P1 ++ pps mb b = P := ⟨_, rfl⟩
  rw [hP2] at cb cc htp
  obtain ⟨P3, hP3⟩ : ∃ P, P2 ++ pps mc c = P := ⟨_, rfl⟩
  rw [hP3] at cc htp
  have hl3 : P3.length ≤ 3 := by
    rw [← hP3, ← hP2, ← hP1]
    simp
    omega
  have C1 := Lib.hid c1
  have CA := Lib.hid ca
  have CB := Lib.hid cb
  have CC := Lib.hid cc
  have KC := Lib.hid kc
  have HT := Lib.hid ht
  have HB := Lib.hid hbd
  have HTP := Lib.hid htp
  have HNL := Lib.hid hNl
  obtain ⟨T, hT⟩ : ∃ T, txi (k : Int) a b c = T := ⟨_, rfl⟩
  rw [hT] at HTP hlen ⊢
  have HL := Lib.hid hlen
  clear c1 ca cb cc kc ht hbd htp hNM hma hmb hmc hP1 hP2 hP3 hpl1 hpl2 hpl3 hr hT hNl hlen
  go_enter Tryd.func14, Tryd.ntmps14
  go_wp2_with fail
  refine (C1.out _ (HT.out.below (new_below _ _))).mono ?_
  rintro e w1 ⟨rfl, hb⟩
  have ht1 := (HT.out.below (new_below _ _)).below hb
  obtain ⟨k0, k1, k2, k3⟩ := KC.out w1 ht1
  obtain ⟨j0, j1, j2, j3⟩ : w1.cell? ⟨w.heap.size, 0, none⟩ = some (.int .i64 k) ∧ w1.cell? ⟨w.heap.size, 1, none⟩ = some (.int .i64 a) ∧ w1.cell? ⟨w.heap.size, 2, none⟩ = some (.int .i64 b) ∧ w1.cell? ⟨w.heap.size, 3, none⟩ = some (.int .i64 c) := by
    refine ⟨?_, ?_, ?_, ?_⟩ <;> rw [hb.cell (by simp), World.cell?_alloc_new] <;> rfl
  have HB0 := Lib.hid ((new_below w _).trans (hb.mono (by simp)))
  have hs1 : w.heap.size < w1.heap.size := by have := hb.size; simp at this; omega
  have H1 := Lib.hid ht1
  have b0 : 0 ≤ (k : Int) ∧ (k : Int) ≤ 27 := by have := HB.out; omega
  clear ht1 hb
  go_wp2_with fail
  have hTx : Tx (w1.alloc (.cells #[.string NM, .int .i64 ma, .int .i64 mb, .int .i64 mc] 43 (0, 0))) w.heap.size w1.heap.size k a b c NM ma mb mc := by
    have hb := new_below w1 (.cells #[.string NM, .int .i64 ma, .int .i64 mb, .int .i64 mc] 43 (0, 0))
    refine ⟨(hb.cell hs1).trans j0, (hb.cell hs1).trans j1, (hb.cell hs1).trans j2, (hb.cell hs1).trans j3, ?_, ?_, ?_, ?_⟩ <;> rw [World.cell?_alloc_new] <;> rfl
  have hsz : (w1.alloc (.cells #[.string NM, .int .i64 ma, .int .i64 mb, .int .i64 mc] 43 (0, 0))).heap.size = w1.heap.size + 1 := by simp
  have hTa := H1.out.below (new_below w1 (.cells #[.string NM, .int .i64 ma, .int .i64 mb, .int .i64 mc] 43 (0, 0)))
  have hB0 := HB0.out.alloc (Nat.le_of_lt hs1) (.cells #[.string NM, .int .i64 ma, .int .i64 mb, .int .i64 mc] 43 (0, 0))
  obtain ⟨w2, hw2⟩ : ∃ w2, w1.alloc (.cells #[.string NM, .int .i64 ma, .int .i64 mb, .int .i64 mc] 43 (0, 0)) = w2 := ⟨_, rfl⟩
  rw [hw2] at hTx hsz hTa hB0
  with_reducible refine (CA.out (w1.heap.size + 1) _ _ ?hown ?hB ?ht).mono ?_
  case hown => exact World.ownsRow_nil _ _ _ _
  case hB => simp
  case ht => rw [hw2]; exact hTa
  rw [hw2]
  clear hw2 j0 j1 j2 j3 k0 k1 k2 k3
  rintro e w3 ⟨v1, rfl, hown, hb⟩
  have HX := Lib.hid (hTx.after hb (by omega) (by omega))
  have hat : TabsB (w1.heap.size + 1) w2 := by rw [← hsz]; exact hTa.at
  have HA := Lib.hid (hat.below hb)
  have HB1 := Lib.hid (hB0.trans (hb.mono (by omega)))
  have HW := Lib.hid hown
  have hz : w1.heap.size + 1 ≤ w3.heap.size := by have := hb.size; omega
  clear hTx hTa hB0 hb hown hsz hat
  obtain ⟨i0, i1, i2, i3, o0, o1, o2, o3⟩ := HX.out
  go_wp2_with fail
  with_reducible refine (CB.out (w1.heap.size + 1) _ _ HW.out hz HA.out.toTabs).mono ?_
  rintro e w4 ⟨v2, rfl, hown, hb⟩
  replace HX := Lib.hid (HX.out.after hb (by omega) (by omega))
  replace HA := Lib.hid (HA.out.below hb)
  replace HB1 := Lib.hid (HB1.out.trans (hb.mono (by omega)))
  replace HW := Lib.hid hown
  replace hz : w1.heap.size + 1 ≤ w4.heap.size := by have := hb.size; omega
  clear i0 i1 i2 i3 o0 o1 o2 o3 hb hown
  obtain ⟨i0, i1, i2, i3, o0, o1, o2, o3⟩ := HX.out
  go_wp2_with fail
  with_reducible refine (CC.out (w1.heap.size + 1) _ _ HW.out hz HA.out.toTabs).mono ?_
  rintro e w5 ⟨v3, rfl, hown, hb⟩
  replace HX := Lib.hid (HX.out.after hb (by omega) (by omega))
  replace HA := Lib.hid (HA.out.below hb)
  replace HB1 := Lib.hid (HB1.out.trans (hb.mono (by omega)))
  replace hz : w1.heap.size + 1 ≤ w5.heap.size := by have := hb.size; omega
  clear i0 i1 i2 i3 o0 o1 o2 o3 hb HW
  obtain ⟨i0, i1, i2, i3, o0, o1, o2, o3⟩ := HX.out
  by_cases hp : P3 = []
  · subst hp
    obtain ⟨q, cap, rfl⟩ : ∃ q cap, v3 = .slice q 0 cap := by
      rcases hown.2 with ⟨h, _⟩ | ⟨g, cap, cur, h, _⟩
      · exact ⟨_, _, h⟩
      · exact ⟨_, _, h⟩
    have hT : T = NM.data.toList := by
      rcases HTP.out with h | h
      · rw [h.2, HNL.out]
      · exact absurd rfl h.1
    have HT2 := Lib.hid hT
    clear hT hown
    go_wp2_with fail
    go_ret
    refine ⟨?_, HB1.out⟩
    show Ending.returned (Value.string NM) = _
    rw [HT2.out]
  · obtain ⟨g, cap, rfl, hcap, hcells, hg⟩ : ∃ g cap, v3 = .slice (some ⟨g, 0, none⟩) P3.length cap ∧ P3.length ≤ cap ∧ (∀ (j : Nat) x, P3[j]? = some x → w5.cell? ⟨g, 0 + j, none⟩ = some (.string x)) ∧ g < w5.heap.size := by
      have hlt := hown.lt
      have hn : P3.length ≠ 0 := fun h => hp (List.eq_nil_of_length_eq_zero h)
      rcases hown.2 with ⟨_, h⟩ | ⟨g, cap, cur, h, _, _, hc, _⟩
      · exact absurd h hn
      · subst h
        refine ⟨g, cap, rfl, hc, fun j x hx => ?_, (hlt g rfl).2⟩
        have hj : j < P3.length := (List.getElem?_eq_some_iff.1 hx).1
        rw [Nat.zero_add, hown.cellAt j (by omega), List.getElem?_map, hx]
        rfl
    have hT : T = NM.data.toList ++ [32] ++ Lib.join (P3.map (·.data.toList)) [44, 32] := by
      rcases HTP.out with h | h
      · exact absurd h.1 hp
      · rw [h.2, HNL.out]
    have hsz : NM.size ≤ 60 ∧ (Lib.join (P3.map (·.data.toList)) [44, 32]).length ≤ 60 := by
      have := HL.out
      rw [hT] at this
      simp only [List.length_append] at this
      have e : NM.size = NM.data.toList.length := Array.length_toList.symm
      omega
    have cj := fun (W : World) (hb : Below w5.heap.size w5 W) => Tryd.strings_Join g 0 cap P3 ⟨#[44, 32]⟩ W (fun j x h => (hb.cell hg).trans (hcells j x h)) (by have := hb.size; omega) (by omega) hcap (by have := hsz.2; exact Nat.le_trans this (by decide))
    obtain ⟨J, hJ⟩ : ∃ J : ByteArray, ⟨(Lib.join (P3.map (·.data.toList)) (⟨#[44, 32]⟩ : ByteArray).data.toList).toArray⟩ = J := ⟨_, rfl⟩
    have hJs : J.size ≤ 60 := by
      rw [← hJ]
      show (Lib.join (P3.map (·.data.toList)) [44, 32]).toArray.size ≤ 60
      rw [List.size_toArray]
      exact hsz.2
    have hJl : (NM ++ ⟨#[32]⟩) ++ J = ⟨T.toArray⟩ := by
      rw [← hJ, hT]
      apply ByteArray.ext
      simp
    have hns := hsz.1
    have ht1 : (NM ++ (⟨#[32]⟩ : ByteArray)).size = NM.size + 1 := ByteArray.size_append
    rw [hJ] at cj
    have CJ := Lib.hid cj
    have hl0 : ((P3.length : Int) == 0) = false := by
      have hn : P3.length ≠ 0 := fun h => hp (List.eq_nil_of_length_eq_zero h)
      exact beq_eq_false_iff_ne.2 (by omega)
    have HJ := Lib.hid hJl
    have HBW := Lib.hid (Below.refl w5.heap.size w5)
    clear cj hJl hJ hT hsz hcells hown hp
    go_wp2_with fail
    replace HBW := Lib.hid HBW.out.drew
    have hlt5 : w1.heap.size < w5.heap.size := by omega
    have n1 : ¬ 9223372036854775807 < NM.size + 1 := by omega
    have n2 : ¬ 9223372036854775807 < NM.size + 1 + J.size := by omega
    have n3 : ¬ 9223372036854775807 < (NM ++ (⟨#[32]⟩ : ByteArray)).size + J.size := by omega
    go_region_held3 (fun W => W.cell? ⟨w1.heap.size, 0, none⟩ = some (.string NM))
      (exact (HBW.out.cell (p := ⟨w1.heap.size, 0, none⟩) hlt5).trans o0)
      (first
        | (go_at_call 28; (with_reducible refine (CJ.out _ HBW.out).mono ?_); rintro e w' ⟨rfl, hb⟩; replace HBW := Lib.hid (HBW.out.trans (hb.mono HBW.out.size)); clear hb))
    all_goals
      go_wp2_with fail
      go_ret
      refine ⟨?_, HB1.out.trans (HBW.out.mono (HB1.out.size))⟩
      exact congrArg (fun s => Ending.returned (Value.string s)) HJ.out
theorem text7 (op a b c : Int) (w : World) (ht : Tabs w) :
    Calls Tryd.prog 14 #[.agg #[.int .i64 op, .int .i64 a, .int .i64 b, .int .i64 c]] w fun e w' => e = .returned (.string ⟨(itx op a b c).toArray⟩) ∧ Below w.heap.size w w' := by
  unfold itx
  cases hr : rgt op a b c with
  | true => exact text_right op a b c w hr ht
  | false =>
    have HT := Lib.hid (fun o => ht.below (new_below w o))
    have c1 := fun w ht => right_code op a b c w ht
    rw [hr] at c1
    have C1 := Lib.hid c1
    clear c1 ht hr
    go_enter Tryd.func14, Tryd.ntmps14
    go_wp2_with fail
    refine (C1.out _ (HT.out _)).mono ?_
    rintro e w1 ⟨rfl, hb⟩
    go_wp2_with fail
    go_ret
    exact ⟨rfl, (new_below w _).trans (hb.mono (by simp))⟩
end Go.Proofs.YtihgkmjlefaaoaaDoor
