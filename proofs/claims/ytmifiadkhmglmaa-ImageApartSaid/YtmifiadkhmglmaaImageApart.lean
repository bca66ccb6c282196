/- The law ImageApart: for every two images and number. No condition. -/
import Derived.Deep.DeepCutAuto
import Derived.StillTailTactics
import Derived.Test.YtmifiadkhmglmaaImgQ
import Derived.Test.YtmifiadkhmglmaaImgN
import Derived.Test.YtmifiadkhmglmaaImgW
namespace Go.Proofs.Ytmifiadkhmglmaa.imageApart
open Go.ChangeShapes Go.WideShapes Go.ChangeAt Go.RowKit
open Go.ChangeMaps (open_string shut_string)
set_option linter.unusedVariables false

theorem own_cap {W : World} {B g n cap : Nat} {e : TypeId} {xs : List Value} (h : W.ownsRow B e 1 (.slice (some ⟨g, 0, none⟩) (0 + n) cap) (0 + n) xs) : n ≤ cap := by
  rcases h.2 with ⟨h, _⟩ | ⟨g', cap', cur, h, _, _, hc, _⟩
  · cases h
  · injection h with h1 h2 h3
    omega
theorem rd_news {W : World} {A : Option Addr} {n : Nat} {l : List Int} (hn : 0 < n) (h : Rd W A n l) : ∃ b off, A = some ⟨b, off, none⟩ ∧ ∀ j u, (l.map (Value.int .u32))[j]? = some u → W.cell? ((⟨b, off, none⟩ : Addr).add j) = some u := by
  rcases h.2.1 with h0 | ⟨b2, off2, e, _, hc⟩
  · omega
  · refine ⟨b2, off2, e, fun j u hu => ?_⟩
    have hj : j < l.length := by have := (List.getElem?_eq_some_iff.1 hu).1; simpa using this
    have hx := hc j (by have := h.1; omega)
    have ha : (⟨b2, off2, none⟩ : Addr).add j = ⟨b2, off2 + j, none⟩ := by unfold Addr.add; split <;> simp_all
    rw [ha, hx]
    simp [List.getD, hj] at hu ⊢
    exact hu
theorem rd_new {W : World} {b off n : Nat} {l : List Int} (hn : 0 < n) (h : Rd W (some ⟨b, off, none⟩) n l) : ∀ j u, (l.map (Value.int .u32))[j]? = some u → W.cell? ((⟨b, off, none⟩ : Addr).add j) = some u := by
  obtain ⟨b2, off2, e, hc⟩ := rd_news hn h
  injection e with e
  injection e with e1 e2 _
  subst e1 e2
  exact hc
theorem rd_zero {W : World} {A : Option Addr} {l : List Int} (h : l.length = 0) : Rd W A 0 l := by
  obtain rfl := List.eq_nil_of_length_eq_zero h
  exact ⟨rfl, .inl rfl, fun j => by simp⟩
theorem emp_le {q k : Nat} (h : (Value.slice (some ⟨q, 0, none⟩) 0 0).ownBlock = some k) : q ≤ k := by
  injection h with h
  exact Nat.le_of_eq h
theorem u32_cell (l : List Int) : ∀ u ∈ l.map (Value.int .u32), u.oneCell' = true := by
  intro u hu
  obtain ⟨x, _, rfl⟩ := List.mem_map.1 hu
  rfl
theorem img4 {w W : World} {a b : Nat} {t : TypeId} {u0 u1 v0 v1 : Value} {bs : List (Nat × Obj)} (h : Kx none w W ((a, .cells #[u0, u1] t (0, 0)) :: (b, .cells #[v0, v1] t (0, 0)) :: bs)) :
    W.cell? ⟨a, 0, none⟩ = some u0 ∧ W.cell? ⟨a, 1, none⟩ = some u1 ∧ W.cell? ⟨b, 0, none⟩ = some v0 ∧ W.cell? ⟨b, 1, none⟩ = some v1 :=
  ⟨(cells2 (h.at 0 rfl)).1, (cells2 (h.at 0 rfl)).2.1, (cells2 (h.at 1 rfl)).1, (cells2 (h.at 1 rfl)).2.1⟩

theorem two8AA {w W : World} {b : Nat} {t : TypeId} {v0 v1 : Value} {bs : List (Nat × Obj)} {vs vs2 : Array Value} {u u2 : TypeId} (h : Kx none w W ((b, .cells #[v0, v1] t (0, 0)) :: bs)) : ((W.alloc (.cells vs u (0, 0))).alloc (.cells vs2 u2 (0, 0))).drew.cell? ⟨b, 0, none⟩ = some v0 ∧ ((W.alloc (.cells vs u (0, 0))).alloc (.cells vs2 u2 (0, 0))).drew.cell? ⟨b, 1, none⟩ = some v1 :=
  two8A (h.more (.cells vs u (0, 0)))
theorem two8B {w W : World} {b : Nat} {t : TypeId} {v0 v1 : Value} {bs : List (Nat × Obj)} {vs : Array Value} {u : TypeId} (h : Kx none w W ((b, .cells #[v0, v1] t (0, 0)) :: bs)) : (W.alloc (.cells vs u (0, 0))).cell? ⟨b, 0, none⟩ = some v0 ∧ (W.alloc (.cells vs u (0, 0))).cell? ⟨b, 1, none⟩ = some v1 :=
  two8 (h.more (.cells vs u (0, 0)))
theorem own3 (w5 : World) (O : Obj) : ((w5.alloc O).alloc (.cells #[] 35 (0, 0))).ownsRow w5.heap.size 35 1 (.slice (some ⟨w5.heap.size + 1, 0, none⟩) 0 0) 0 [] := by
  have h := World.ownsRow_made (e := 35) (size := 1) (w5.alloc O) #[] 0 (base := w5.heap.size) (by simp) (by simp) rfl
  rw [World.size_alloc] at h
  exact h
theorem v1 {w w5 w6 : World} {a b : Nat × Obj} (h : Kx none w w5 [a, b]) (E : Obj) (hg : (w5.alloc E).drew.grownBy w6 (some w5.heap.size)) : Kx none w w6 [a, b] :=
  ((h.more E).first 2).drew.grow hg (fun g e => by
    injection e with e
    subst e
    refine ⟨h.be.size, fun x hx => ?_⟩
    have := (h.all x hx).2
    omega)
theorem v3 {w w5 w6 : World} {a b : Nat × Obj} (h : Kx none w w5 [a, b]) (E O : Obj) (hg : ((w5.alloc O).alloc E).drew.grownBy w6 (some (w5.heap.size + 1))) : Kx none w w6 [a, b, (w5.heap.size, O)] :=
  (((h.more O).more E).first 3).drew.grow hg (fun g e => by
    injection e with e
    subst e
    refine ⟨by have := h.be.size; omega, fun x hx => ?_⟩
    have := ((h.more O).all x hx).2
    simp at this
    omega)
theorem v2 {w w5 w6 : World} {a b : Nat × Obj} (h : Kx none w w5 [a, b]) (E O : Obj) (hg : ((w5.alloc E).alloc O).drew.grownBy w6 (some w5.heap.size)) : Kx none w w6 [a, b, (w5.heap.size + 1, O)] := by
  have h2 : Kx none w ((w5.alloc E).alloc O).drew [a, b, (w5.heap.size + 1, O)] := by
    have h3 := ((h.more E).add (w5.heap.size + 1) (by simp) O).drew
    exact (h3.perm (cs := [a, b, (w5.heap.size + 1, O), (w5.heap.size, E)]) (((List.Perm.swap _ _ _).cons _).cons _)).first 3
  refine h2.grow hg (fun g e => ?_)
  injection e with e
  subst e
  refine ⟨h.be.size, fun x hx => ?_⟩
  simp only [List.mem_cons, List.not_mem_nil, or_false] at hx
  rcases hx with rfl | rfl | rfl
  · have := (h.all x (by simp)).2; omega
  · have := (h.all x (by simp)).2; omega
  · simp
/-- A row that is owned, as a block that is known. -/
theorem kx_row {w W : World} {bs : List (Nat × Obj)} (h : Kx none w W bs) {B g n cap : Nat} {xs : List Value} (ho : W.ownsRow B 35 1 (.slice (some ⟨g, 0, none⟩) n cap) n xs) (hne : ∀ x ∈ bs, x.1 ≠ g) :
    ∃ cur : Array Value, Kx none w W (bs ++ [(g, .cells cur 35 (0, 0))]) ∧ n ≤ cap ∧ cur.size = cap ∧ cur.toList.take n = xs := by
  rcases ho.2 with ⟨h0, _⟩ | ⟨g', cap', cur, h1, _, hh, hc, _, hs, ht⟩
  · cases h0
  · injection h1 with h1 h2 h3
    injection h1 with h1
    injection h1 with h1
    subst h1 h3
    refine ⟨cur, ⟨fun x hx => ?_, ?_, h.be⟩, hc, by rw [hs, Nat.mul_one], by rw [← ht, Nat.mul_one]⟩
    · rcases List.mem_append.1 hx with hx | hx
      · exact h.all x hx
      · simp only [List.mem_singleton] at hx
        subst hx
        exact ⟨hh, (Array.getElem?_eq_some_iff.1 hh).1⟩
    · have := h.nd
      rw [List.map_append, List.nodup_append]
      refine ⟨this, by simp, ?_⟩
      intro a ha b hb e
      obtain ⟨x, hx, rfl⟩ := List.mem_map.1 ha
      simp at hb
      exact hne x hx (e.trans hb)

theorem rd_blk {W : World} {g n : Nat} {cur : Array Value} {l : List Int} (h : W.heap[g]? = some (.cells cur 35 (0, 0))) (ht : cur.toList.take n = l.map (Value.int .u32)) (hl : l.length = n) (hw : W32s l) : Rd W (some ⟨g, 0, none⟩) n l := by
  refine ⟨hl, .inr ⟨g, 0, rfl, (Array.getElem?_eq_some_iff.1 h).1, fun j hj => ?_⟩, fun j => ?_⟩
  · have hc : W.cell? ⟨g, 0 + j, none⟩ = cur[j]? := by simp [World.cell?, h]
    have h2 : cur.toList[j]? = (l.map (Value.int .u32))[j]? := by rw [← ht, List.getElem?_take, if_pos hj]
    rw [hc, ← Array.getElem?_toList, h2, List.getElem?_map, List.getD_eq_getElem?_getD, List.getElem?_eq_getElem (show j < l.length by omega)]
    rfl
  · rw [List.getD_eq_getElem?_getD]
    cases hx : l[j]? with
    | none => simp
    | some x => exact hw x (List.mem_of_getElem? hx)
theorem set_take {cur : Array Value} {n j : Nat} {l : List Int} (x : Int) (ht : cur.toList.take n = l.map (Value.int .u32)) : (cur.setIfInBounds j (.int .u32 x)).toList.take n = (l.set j x).map (Value.int .u32) := by
  rw [Array.toList_setIfInBounds, List.take_set, ht, List.map_set]
theorem kx_set {w W : World} {a b o : Nat × Obj} {g : Nat} {cur : Array Value} (h : Kx none w W [a, b, o, (g, .cells cur 35 (0, 0))]) (hg : w.heap.size ≤ g) (j : Nat) (v : Value) : Kx none w (W.setCell ⟨g, j, none⟩ v) [a, b, o, (g, .cells (cur.setIfInBounds j v) 35 (0, 0))] :=
  h.afterq 3 rfl (.inr hg) (Bx.set W g j v) (heap_setCell_same W g j cur 35 v (h.at 3 rfl))
theorem kx_cell {w W : World} {a b : Nat × Obj} {N j : Nat} {u0 u1 v0 v1 v : Value} {t : TypeId} {r : List (Nat × Obj)} (h : Kx none w W (a :: b :: (N, .cells #[u0, u1] t (0, 0)) :: r)) (hN : w.heap.size ≤ N) (he : (#[u0, u1] : Array Value).setIfInBounds j v = #[v0, v1]) : Kx none w (W.setCell ⟨N, j, none⟩ v) (a :: b :: (N, .cells #[v0, v1] t (0, 0)) :: r) := by
  have e := heap_setCell_same W N j _ t v (h.at 2 rfl)
  rw [he] at e
  exact h.afterq 2 rfl (.inr hN) (Bx.set W N j v) e
theorem end1 {w w5 w6 : World} {a b : Nat × Obj} (h5 : Kx none w w5 [a, b]) (h : Kx none w w6 [a, b]) {g n cap : Nat} {xs : List Value} (ho : w6.ownsRow w5.heap.size 35 1 (.slice (some ⟨g, 0, none⟩) (0 + n) cap) (0 + n) xs) (O : Obj) :
    ∃ cur : Array Value, (w.heap.size ≤ w6.heap.size ∧ w.heap.size ≤ g) ∧ n ≤ cap ∧ cur.size = cap ∧ cur.toList.take n = xs ∧ Hid (Kx none w (w6.alloc O) [a, b, (w6.heap.size, O), (g, .cells cur 35 (0, 0))]) := by
  rw [Nat.zero_add] at ho
  have hg := (ho.lt g rfl).1
  obtain ⟨cur, hk, h1, h2, h3⟩ := kx_row h ho (fun x hx => by
    have := (h5.all x hx).2
    omega)
  exact ⟨cur, ⟨h.be.size, Nat.le_trans h5.be.size hg⟩, h1, h2, h3, (hk.more O).perm (((List.Perm.swap _ _ _).cons _).cons _)⟩
theorem end2 {w w5 w6 : World} {a b : Nat × Obj} {N : Nat} {u0 u1 : Value} {t : TypeId} (h5 : Kx none w w5 [a, b]) (h : Kx none w w6 [a, b, (N, .cells #[u0, u1] t (0, 0))]) (hN : w5.heap.size ≤ N) {g n cap : Nat} {xs : List Value} (ho : w6.ownsRow w5.heap.size 35 1 (.slice (some ⟨g, 0, none⟩) (0 + n) cap) (0 + n) xs) (hne : g ≠ N) (v0 v1 : Value) :
    ∃ cur : Array Value, (w.heap.size ≤ N ∧ w.heap.size ≤ g) ∧ n ≤ cap ∧ cur.size = cap ∧ cur.toList.take n = xs ∧ Hid (Kx none w ((w6.setCell ⟨N, 0, none⟩ v0).setCell ⟨N, 1, none⟩ v1) [a, b, (N, .cells #[v0, v1] t (0, 0)), (g, .cells cur 35 (0, 0))]) := by
  rw [Nat.zero_add] at ho
  have hg := (ho.lt g rfl).1
  obtain ⟨cur, hk, h1, h2, h3⟩ := kx_row h ho (fun x hx => by
    simp only [List.mem_cons, List.not_mem_nil, or_false] at hx
    rcases hx with rfl | rfl | rfl
    · have := (h5.all x (by simp)).2; omega
    · have := (h5.all x (by simp)).2; omega
    · exact fun e => hne e.symm)
  exact ⟨cur, ⟨Nat.le_trans h5.be.size hN, Nat.le_trans h5.be.size hg⟩, h1, h2, h3, hk.put2 2 rfl (.inr (Nat.le_trans h5.be.size hN)) v0 v1⟩
set_option maxRecDepth 100000 in
set_option maxHeartbeats 4000000 in
theorem good {A B : Option Addr} {n c m k : Nat} {k1 k2 : List Int} {d1 d2 z : Int} (w : World) (hr : Rd w A n k1) (hs : Rd w B m k2) (hw : W32s k1) (hx : W32s k2) (h1 : irt k1 d1 = true) (h2 : irt k2 d2 = true) (hn : n ≤ 500) (hm : m ≤ 500) :
    Calls Try.prog 7 #[.agg #[.slice A n c, .int .i64 d1], .agg #[.slice B m k, .int .i64 d2], .int .i64 z] w fun e w' => e = .returned (.bool true) ∧ Below w.heap.size w w' := by
  have hl := hr.1
  have hl2 := hs.1
  have HK : Hid (Kx none w ((w.alloc (.cells #[.slice A n c, .int .i64 d1] 24 (0, 0))).alloc (.cells #[.slice B m k, .int .i64 d2] 24 (0, 0))) [(w.heap.size, .cells #[.slice A n c, .int .i64 d1] 24 (0, 0)), (w.heap.size + 1, .cells #[.slice B m k, .int .i64 d2] 24 (0, 0))]) := Lib.hid (((Kx.nil none w).more _).add (w.heap.size + 1) (by simp) _)
  have HR := Lib.hid hr
  have HS := Lib.hid hs
  have i1 : decide ((500 : Int) < (n : Int)) = false := decide_eq_false (by omega)
  have i2 : decide ((500 : Int) < (m : Int)) = false := decide_eq_false (by omega)
  have c1 := fun (w : World) => right8_ref (A := A) (c := c) (d := d1) k1 w hl (by omega)
  have c2 := fun (w : World) => right8_ref (A := B) (c := k) (d := d2) k2 w hl2 (by omega)
  have c3 := fun (w : World) (h : Rd w A n k1) => put8 (c := c) (d := d1) w h (by omega)
  have c4 := fun (w : World) (h : Rd w B m k2) => put8 (c := k) (d := d2) w h (by omega)
  have c5 := fun (w : World) (h : Rd w A n k1) (h2 : Rd w B m k2) => same8 (c := c) (e := k) (d1 := d1) (d2 := d2) w h h2 (by omega) (by omega)
  have c6 := fun (w : World) (g cap : Nat) (h : Rd w (some ⟨g, 0, none⟩) n k1) => put8 (c := cap) (d := 32768 - d1) w h (by omega)
  rw [h1] at c1
  rw [h2] at c2
  rw [show pts k1 d1 = ibs k1 d1 from by unfold pts; rw [h1]; rfl, show pte k1 d1 = 0 from by unfold pte; rw [h1]; rfl] at c3
  rw [show pts k2 d2 = ibs k2 d2 from by unfold pts; rw [h2]; rfl, show pte k2 d2 = 0 from by unfold pte; rw [h2]; rfl] at c4
  have ho := other_data h1 hw
  have h3 := ho.1
  rw [show pts k1 (32768 - d1) = ibs k1 (32768 - d1) from by unfold pts; rw [h3]; rfl, show pte k1 (32768 - d1) = 0 from by unfold pte; rw [h3]; rfl] at c6
  have hi : ibs k1 d1 = ibs k2 d2 ↔ k1 = k2 ∧ d1 = d2 := ⟨fun e => by
    have e2 : ibl k1 d1 = ibl k2 d2 := by rw [← nums_ibs h1 hw, e, nums_ibs h2 hx]
    exact ibl_inj h1 h2 hw hx e2, by rintro ⟨rfl, rfl⟩; rfl⟩
  have hwd := fun (j : Nat) (hj : j < k1.length) (x : Int) (hx : 0 ≤ x ∧ x < 4294967296) (hne : ¬ x = k1.getD j 0) => other_word h1 hw hj hx hne
  have hd1 := irt_yes h1
  obtain ⟨S, eS⟩ : ∃ S, ibs k1 d1 = S := ⟨_, rfl⟩
  obtain ⟨T, eT⟩ : ∃ T, ibs k2 d2 = T := ⟨_, rfl⟩
  obtain ⟨U, eU⟩ : ∃ U, ibs k1 (32768 - d1) = U := ⟨_, rfl⟩
  rw [eS] at c3 hi ho hwd
  rw [eT] at c4 hi
  rw [eU] at c6 ho
  obtain ⟨q, hq⟩ : ∃ q, decide (k1 = k2 ∧ d1 = d2) = q := ⟨_, rfl⟩
  rw [hq] at c5
  have e1 : (q == q) = true := by simp
  have e2 : (S.toList == T.toList) = q := by
    rw [← hq, ByteArray.toList_eq, ByteArray.toList_eq, Bool.eq_iff_iff, beq_iff_eq, decide_eq_true_iff, ← hi]
    exact ⟨fun h => by apply ByteArray.ext; exact Array.toList_inj.1 h, fun h => by rw [h]⟩
  obtain ⟨r, hr0⟩ : ∃ r, decide (d1 = 16384) = r := ⟨_, rfl⟩
  have e3 : (U.toList == S.toList) = r := by
    rw [← hr0, ByteArray.toList_eq, ByteArray.toList_eq, Bool.eq_iff_iff, beq_iff_eq, decide_eq_true_iff, ← ho.2]
    exact ⟨fun h => by apply ByteArray.ext; exact Array.toList_inj.1 h, fun h => by rw [h]⟩
  have e4 : (d1 == 16384) = r := by rw [← hr0, Bool.eq_iff_iff, beq_iff_eq, decide_eq_true_iff]
  have e5 : (r == r) = true := by simp
  obtain ⟨D, hD⟩ : ∃ D, 32768 - d1 = D := ⟨_, rfl⟩
  rw [hD] at c6
  have w1 : IntKind.i64.wrap (32768 - d1) = D := by rw [IntKind.wrap_i64]; omega
  obtain ⟨z0, hz, hz0, hz1, hz2⟩ := info_parts infoU32
  have C1 := Lib.hid c1
  have C2 := Lib.hid c2
  have C3 := Lib.hid c3
  have C4 := Lib.hid c4
  have C5 := Lib.hid c5
  have C6 := Lib.hid c6
  have HWD := Lib.hid hwd
  have HW := Lib.hid hw
  clear c1 c2 c3 c4 c5 c6 eS eT eU hr hs hw hx h1 h2 ho h3 hi hwd hq hr0 hd1 hD
  go_enter Try.func7, Try.ntmps7
  go_wp2_with fail
  refine (awake8 _).mono ?_
  rintro e w0 ⟨rfl, hb⟩
  replace HK := Lib.hid (HK.out.after hb)
  clear hb
  obtain ⟨a0, a1, b0, b1⟩ := img4 HK.out
  go_wp2_with fail
  refine (C1.out _).mono ?_
  rintro e w1 ⟨rfl, hb⟩
  replace HK := Lib.hid (HK.out.after hb)
  clear a0 a1 b0 b1
  clear hb
  obtain ⟨a0, a1, b0, b1⟩ := img4 HK.out
  go_wp2_with fail
  refine (C2.out _).mono ?_
  rintro e w2 ⟨rfl, hb⟩
  replace HK := Lib.hid (HK.out.after hb)
  clear a0 a1 b0 b1
  clear hb
  obtain ⟨a0, a1, b0, b1⟩ := img4 HK.out
  go_wp2_with fail
  refine (C3.out _ (HR.out.kx HK.out)).mono ?_
  rintro e w3 ⟨rfl, hb⟩
  replace HK := Lib.hid (HK.out.after hb)
  clear a0 a1 b0 b1
  clear hb
  obtain ⟨a0, a1, b0, b1⟩ := img4 HK.out
  go_wp2_with fail
  refine (C4.out _ (HS.out.kx HK.out)).mono ?_
  rintro e w4 ⟨rfl, hb⟩
  replace HK := Lib.hid (HK.out.after hb)
  clear a0 a1 b0 b1
  clear hb
  obtain ⟨a0, a1, b0, b1⟩ := img4 HK.out
  go_wp2_with fail
  refine (C5.out _ (HR.out.kx HK.out) (HS.out.kx HK.out)).mono ?_
  rintro e w5 ⟨rfl, hb⟩
  replace HK := Lib.hid (HK.out.after hb)
  clear a0 a1 b0 b1
  clear hb
  obtain ⟨a0, a1, b0, b1⟩ := img4 HK.out
  go_wp2_with fail
  go_cut [11] (fun s11 wx => ∃ (N g cp : Nat) (cur : Array Value), s11 = .pointer (some ⟨N, 0, none⟩) ∧ (w.heap.size ≤ N ∧ w.heap.size ≤ g) ∧ n ≤ cp ∧ cur.size = cp ∧ cur.toList.take n = k1.map (Value.int .u32) ∧ Hid (Kx none w wx [(w.heap.size, .cells #[.slice A n c, .int .i64 d1] 24 (0, 0)), (w.heap.size + 1, .cells #[.slice B m k, .int .i64 d2] 24 (0, 0)), (N, .cells #[.slice (some ⟨g, 0, none⟩) n cp, .int .i64 D] 24 (0, 0)), (g, .cells cur 35 (0, 0))]))
  case first =>
    have HK0 := HK
    have HGE : Hid (w.heap.size ≤ w5.heap.size) := Lib.hid HK.out.be.size
    rcases Nat.eq_zero_or_pos n with hn0 | hn0
    · subst hn0
      have hk1 : Hid (k1 = []) := Lib.hid (List.eq_nil_of_length_eq_zero hl)
      rcases A with _ | ⟨b, off, p⟩
      · go_region_held3 (fun W => W.cell? ⟨w.heap.size, 0, none⟩ = some (.slice none 0 c) ∧ W.cell? ⟨w.heap.size, 1, none⟩ = some (.int .i64 d1))
          (first | exact two8A HK.out | exact two8D HK.out | exact two8 HK.out | exact two8AA HK.out | exact two8B HK.out | exact two8 ((((HK.out.more _).add (w5.heap.size + 1) (by simp) _)).put2 2 rfl (.inr (by have := HK.out.be.size; omega)) _ _) | exact two8 (((((HK.out.more _).add (w5.heap.size + 1) (by simp) _)).put2 2 rfl (.inr (by have := HK.out.be.size; omega)) _ _)).drew)
          (fail)
        all_goals
          go_wp2_with fail
          go_meet
          first
            | exact ⟨_, _, 0, #[], rfl, ⟨by have := HGE.out; omega, by have := HGE.out; omega⟩, Nat.le_refl _, rfl, by rw [hk1.out]; rfl, (((HK0.out.more (.cells #[] 35 (0, 0))).add (w5.heap.size + 1) (by simp) (.cells #[.slice (some ⟨w5.heap.size, 0, none⟩) 0 0, .int .i64 D] 24 (0, 0))).perm (((List.Perm.swap _ _ _).cons _).cons _)).drew⟩
            | exact ⟨_, _, 0, #[], rfl, ⟨by have := HGE.out; omega, by have := HGE.out; omega⟩, Nat.le_refl _, rfl, by rw [hk1.out]; rfl, ((HK0.out.more (.cells #[.slice (some ⟨w5.heap.size + 1, 0, none⟩) 0 0, .int .i64 D] 24 (0, 0))).add (w5.heap.size + 1) (by simp) (.cells #[] 35 (0, 0))).drew⟩
      · go_region_held3 (fun W => W.cell? ⟨w.heap.size, 0, none⟩ = some (.slice (some ⟨b, off, p⟩) 0 c) ∧ W.cell? ⟨w.heap.size, 1, none⟩ = some (.int .i64 d1))
          (first | exact two8A HK.out | exact two8D HK.out | exact two8 HK.out | exact two8AA HK.out | exact two8B HK.out | exact two8 ((((HK.out.more _).add (w5.heap.size + 1) (by simp) _)).put2 2 rfl (.inr (by have := HK.out.be.size; omega)) _ _) | exact two8 (((((HK.out.more _).add (w5.heap.size + 1) (by simp) _)).put2 2 rfl (.inr (by have := HK.out.be.size; omega)) _ _)).drew)
          (fail)
        all_goals
          go_wp2_with fail
          go_meet
          first
            | exact ⟨_, _, 0, #[], rfl, ⟨by have := HGE.out; omega, by have := HGE.out; omega⟩, Nat.le_refl _, rfl, by rw [hk1.out]; rfl, (((HK0.out.more (.cells #[] 35 (0, 0))).add (w5.heap.size + 1) (by simp) (.cells #[.slice (some ⟨w5.heap.size, 0, none⟩) 0 0, .int .i64 D] 24 (0, 0))).perm (((List.Perm.swap _ _ _).cons _).cons _)).drew⟩
            | exact ⟨_, _, 0, #[], rfl, ⟨by have := HGE.out; omega, by have := HGE.out; omega⟩, Nat.le_refl _, rfl, by rw [hk1.out]; rfl, ((HK0.out.more (.cells #[.slice (some ⟨w5.heap.size + 1, 0, none⟩) 0 0, .int .i64 D] 24 (0, 0))).add (w5.heap.size + 1) (by simp) (.cells #[] 35 (0, 0))).drew⟩
    · obtain ⟨b, off, rfl, _⟩ := rd_news hn0 HR.out
      go_region_held3 (fun W => W.cell? ⟨w.heap.size, 0, none⟩ = some (.slice (some ⟨b, off, none⟩) n c) ∧ W.cell? ⟨w.heap.size, 1, none⟩ = some (.int .i64 d1))
        (first | exact two8A HK.out | exact two8D HK.out | exact two8 HK.out | exact two8AA HK.out | exact two8B HK.out | exact two8 (HK.out.put2 2 rfl (.inr (by have := HGE.out; omega)) _ _) | exact two8 ((HK.out.more _).put2 2 rfl (.inr (by have := HK.out.be.size; omega)) _ _))
        (first
          | (refine step_append_lies _ (by rfl) _ _ _ (by rfl) w5.heap.size 35 z0 _ 1 4 Try.underlying22 hz hz0 hz1 hz2 rfl (by omega) _ 0 [] (by rfl) (World.ownsRow_made w5 #[] 0 (Nat.le_refl _) (by simp) rfl)
              ⟨b, off, none⟩ n c (k1.map (Value.int .u32)) (by rfl) (by simp [hl]) (rd_new hn0 (HR.out.kx (HK0.out.more (.cells #[] 35 (0, 0))).drew)) (u32_cell _)
              hn0 (by unfold maxLen; omega) (by omega) (by simp; try omega) _ rfl ?_; intro g1 cap1 w6 hown hgrow hat hlt1
             replace HK := Lib.hid (v1 HK0.out _ hgrow)
             have HO1 : Hid (w6.ownsRow w5.heap.size 35 1 (.slice (some ⟨g1, 0, none⟩) (0 + n) cap1) (0 + n) (k1.map (Value.int .u32))) := Lib.hid hown
             have HAT : Hid (g1 = w5.heap.size ∨ g1 = (w5.alloc (.cells #[] 35 (0, 0))).drew.heap.size) := Lib.hid (hat.elim (fun e => .inl (by injection e with e; exact e.symm)) .inr)
             clear hown hgrow hat hlt1)
          | (refine step_append_lies _ (by rfl) _ _ _ (by rfl) w5.heap.size 35 z0 _ 1 4 Try.underlying22 hz hz0 hz1 hz2 rfl (by omega) _ 0 [] (by rfl) ((World.ownsRow_made w5 #[] 0 (Nat.le_refl _) (by simp) rfl).alloc (.cells #[.slice none 0 0, .int .i64 0] 24 (0, 0)))
              ⟨b, off, none⟩ n c (k1.map (Value.int .u32)) (by rfl) (by simp [hl]) (rd_new hn0 (HR.out.kx ((HK0.out.more (.cells #[] 35 (0, 0))).more (.cells #[.slice none 0 0, .int .i64 0] 24 (0, 0))).drew)) (u32_cell _)
              hn0 (by unfold maxLen; omega) (by omega) (by simp; try omega) _ rfl ?_; intro g1 cap1 w6 hown hgrow hat hlt1
             replace HK := Lib.hid (v2 HK0.out _ _ hgrow)
             have HO1 : Hid (w6.ownsRow w5.heap.size 35 1 (.slice (some ⟨g1, 0, none⟩) (0 + n) cap1) (0 + n) (k1.map (Value.int .u32))) := Lib.hid hown
             have HAT : Hid (g1 = w5.heap.size ∨ g1 = ((w5.alloc (.cells #[] 35 (0, 0))).alloc (.cells #[.slice none 0 0, .int .i64 0] 24 (0, 0))).drew.heap.size) := Lib.hid (hat.elim (fun e => .inl (by injection e with e; exact e.symm)) .inr)
             obtain ⟨n0, n1, n2, n3⟩ := cells2 (HK.out.at 2 rfl)
             clear hown hgrow hat hlt1)
          | (refine step_append_lies _ (by rfl) _ _ _ (by rfl) w5.heap.size 35 z0 _ 1 4 Try.underlying22 hz hz0 hz1 hz2 rfl (by omega) _ 0 [] (by rfl) (own3 w5 (.cells #[.slice none 0 0, .int .i64 0] 24 (0, 0)))
              ⟨b, off, none⟩ n c (k1.map (Value.int .u32)) (by rfl) (by simp [hl]) (rd_new hn0 (HR.out.kx ((HK0.out.more (.cells #[.slice none 0 0, .int .i64 0] 24 (0, 0))).more (.cells #[] 35 (0, 0))).drew)) (u32_cell _)
              hn0 (by unfold maxLen; omega) (by omega) (by simp; try omega) _ rfl ?_; intro g1 cap1 w6 hown hgrow hat hlt1
             replace HK := Lib.hid (v3 HK0.out _ _ hgrow)
             have HO1 : Hid (w6.ownsRow w5.heap.size 35 1 (.slice (some ⟨g1, 0, none⟩) (0 + n) cap1) (0 + n) (k1.map (Value.int .u32))) := Lib.hid hown
             have HAT : Hid (g1 = w5.heap.size + 1 ∨ g1 = ((w5.alloc (.cells #[.slice none 0 0, .int .i64 0] 24 (0, 0))).alloc (.cells #[] 35 (0, 0))).drew.heap.size) := Lib.hid (hat.elim (fun e => .inl (by injection e with e; exact e.symm)) .inr)
             obtain ⟨n0, n1, n2, n3⟩ := cells2 (HK.out.at 2 rfl)
             clear hown hgrow hat hlt1)
          | fail)
      all_goals
        go_wp2_with fail
        go_meet
        first
          | (obtain ⟨cur, q0, q1, q2, q3, q4⟩ := end1 HK0.out HK.out HO1.out (.cells #[.slice (some ⟨g1, 0, none⟩) n cap1, .int .i64 D] 24 (0, 0))
             exact ⟨_, _, _, cur, rfl, q0, q1, q2, q3, q4⟩)
          | (have hat := HAT.out
             simp at hat
             obtain ⟨cur, q0, q1, q2, q3, q4⟩ := end2 HK0.out HK.out (by omega) HO1.out (by omega) (.slice (some ⟨g1, 0, none⟩) n cap1) (.int .i64 D)
             exact ⟨_, _, _, cur, rfl, q0, q1, q2, q3, q4⟩)
  case rest =>
    obtain ⟨N, g, cp, cur, rfl, hng, hcp, hcs, hct, HK9⟩ := hcut
    replace HK := HK9
    clear HK9 b0 b1 a0 a1
    have HCT := Lib.hid hct
    have HN := Lib.hid hng
    clear hct hng
    obtain ⟨a0, a1, b0, b1⟩ := img4 HK.out
    obtain ⟨n0, n1, n2, n3⟩ := cells2 (HK.out.at 2 rfl)
    go_wp2_with fail
    refine (C6.out _ _ _ (rd_blk (HK.out.at 3 rfl) HCT.out hl HW.out)).mono ?_
    rintro e w7 ⟨rfl, hb⟩
    replace HK := Lib.hid (HK.out.after hb)
    clear hb a0 a1 b0 b1 n0 n1 n2 n3
    obtain ⟨a0, a1, b0, b1⟩ := img4 HK.out
    obtain ⟨n0, n1, n2, n3⟩ := cells2 (HK.out.at 2 rfl)
    by_cases z1 : z < 0
    · have i3 : decide (z < 0) = true := decide_eq_true z1
      go_wp2_with fail
      go_ret
      exact ⟨rfl, HK.out.be.plain⟩
    · have i3 : decide (z < 0) = false := decide_eq_false z1
      by_cases z2 : (n : Int) ≤ z
      · have i4 : decide ((n : Int) ≤ z) = true := decide_eq_true z2
        go_wp2_with fail
        go_ret
        exact ⟨rfl, HK.out.be.plain⟩
      · have i4 : decide ((n : Int) ≤ z) = false := decide_eq_false z2
        obtain ⟨j, rfl⟩ : ∃ j : Nat, z = (j : Int) := ⟨z.toNat, by omega⟩
        have hj : j < n := by omega
        have hj0 : (0 : Int) ≤ (j : Int) := by omega
        have hj1 : (j : Int) < (n : Int) := by omega
        obtain ⟨X, eX⟩ : ∃ X, k1.getD j 0 = X := ⟨_, rfl⟩
        have hX : 0 ≤ X ∧ X < 4294967296 := by
          rw [← eX, List.getD_eq_getElem?_getD, List.getElem?_eq_getElem (show j < k1.length by omega)]
          exact HW.out _ (List.getElem_mem _)
        obtain ⟨Y, wY⟩ : ∃ Y, IntKind.u32.wrap (X + 1) = Y := ⟨_, rfl⟩
        have hY : (0 ≤ Y ∧ Y < 4294967296) ∧ ¬ Y = X := by
          rw [← wY, IntKind.wrap_u32]
          omega
        obtain ⟨g4, g5, g6, g7⟩ := HWD.out j (by omega) Y hY.1 (by rw [eX]; exact hY.2)
        have c7 := fun (w : World) (h : Rd w (some ⟨g, 0, none⟩) n (k1.set j Y)) => put8 (c := cp) (d := d1) w h (by omega)
        rw [show pts (k1.set j Y) d1 = ibs (k1.set j Y) d1 from by unfold pts; rw [g4]; rfl, show pte (k1.set j Y) d1 = 0 from by unfold pte; rw [g4]; rfl] at c7
        obtain ⟨V, eV⟩ : ∃ V, ibs (k1.set j Y) d1 = V := ⟨_, rfl⟩
        rw [eV] at c7 g6 g7
        have C7 := Lib.hid c7
        have e6 : (V.toList == S.toList) = false := by
          rw [ByteArray.toList_eq, ByteArray.toList_eq, beq_eq_false_iff_ne]
          exact fun h => g6 (by apply ByteArray.ext; exact Array.toList_inj.1 h)
        have e7 : ((V.size : Int) == (S.size : Int)) = true := by rw [g7]; simp
        have hrow : w7.heap[g]? = some (.cells cur 35 (0, 0)) := HK.out.at 3 rfl
        have cj : w7.cell? ⟨g, j, none⟩ = some (.int .u32 X) := by
          have hc : w7.cell? ⟨g, j, none⟩ = cur[j]? := by simp [World.cell?, hrow]
          have h2 : cur.toList[j]? = (k1.map (Value.int .u32))[j]? := by rw [← HCT.out, List.getElem?_take, if_pos hj]
          rw [hc, ← Array.getElem?_toList, h2, List.getElem?_map, ← eX, List.getD_eq_getElem?_getD, List.getElem?_eq_getElem (show j < k1.length by omega)]
          rfl
        have fj : w7.frozen? ⟨g, j, none⟩ = false := by simp [World.frozen?, hrow]
        have HG5 := Lib.hid g5
        clear c7 g4 g5 g6 g7 eV hY hX eX hrow C1 C2 C3 C4 C5 C6 HWD
        go_wp2_with fail
        have HK8 := Lib.hid (kx_set HK.out HN.out.2 j (.int .u32 Y)).drew
        have HK9 := Lib.hid (kx_cell (j := 1) (v := .int .i64 d1) (v0 := .slice (some ⟨g, 0, none⟩) n cp) (v1 := .int .i64 d1) (kx_set HK.out HN.out.2 j (.int .u32 Y)) HN.out.1 rfl).drew
        obtain ⟨r0, r1, r2, r3⟩ := img4 HK8.out
        obtain ⟨p0, p1, p2, p3⟩ := cells2 (HK8.out.at 2 rfl)
        obtain ⟨s0, s1, s2, s3⟩ := cells2 (HK9.out.at 2 rfl)
        go_still_tail 10, (by kernel_rfl)
        change wpList _ _ _ _ _ w7.drew
        go_wp2_with fail
        refine (C7.out _ (rd_blk (HK9.out.at 3 rfl) (set_take Y HCT.out) (by rw [List.length_set]; exact hl) HG5.out)).mono ?_
        rintro e w8 ⟨rfl, hb⟩
        have HK10 := Lib.hid (HK9.out.after hb)
        clear hb
        go_wp2_with fail
        go_ret
        exact ⟨rfl, HK10.out.be.plain⟩
set_option maxRecDepth 100000 in
set_option maxHeartbeats 4000000 in
theorem walk {A B : Option Addr} {n c m k : Nat} {k1 k2 : List Int} {d1 d2 : Int} (z : Int) (w : World) (hM : n ≤ c ∧ c ≤ maxLen ∧ Rd w A n k1 ∧ W32s k1) (hN : m ≤ k ∧ k ≤ maxLen ∧ Rd w B m k2 ∧ W32s k2) :
    Calls Try.prog 7 #[.agg #[.slice A n c, .int .i64 d1], .agg #[.slice B m k, .int .i64 d2], .int .i64 z] w fun e w' => e = .returned (.bool true) ∧ Below w.heap.size w w' := by
  obtain ⟨_, _, hr, hw⟩ := hM
  obtain ⟨_, _, hs, hx⟩ := hN
  have hl := hr.1
  have hl2 := hs.1
  have HK : Hid (Kx none w ((w.alloc (.cells #[.slice A n c, .int .i64 d1] 24 (0, 0))).alloc (.cells #[.slice B m k, .int .i64 d2] 24 (0, 0))) [(w.heap.size, .cells #[.slice A n c, .int .i64 d1] 24 (0, 0)), (w.heap.size + 1, .cells #[.slice B m k, .int .i64 d2] 24 (0, 0))]) := Lib.hid (((Kx.nil none w).more _).add (w.heap.size + 1) (by simp) _)
  by_cases hn : n ≤ 500
  · have i1 : decide ((500 : Int) < (n : Int)) = false := decide_eq_false (by omega)
    by_cases hm : m ≤ 500
    · have i2 : decide ((500 : Int) < (m : Int)) = false := decide_eq_false (by omega)
      have c1 := fun (w : World) => right8_ref (A := A) (c := c) (d := d1) k1 w hl (by omega)
      have c2 := fun (w : World) => right8_ref (A := B) (c := k) (d := d2) k2 w hl2 (by omega)
      cases h1 : irt k1 d1 with
      | true =>
        cases h2 : irt k2 d2 with
        | true => exact good w hr hs hw hx h1 h2 hn hm
        | false =>
          rw [h1] at c1
          rw [h2] at c2
          have C1 := Lib.hid c1
          have C2 := Lib.hid c2
          clear c1 c2 hr hs hw hx h1 h2
          go_enter Try.func7, Try.ntmps7
          go_wp2_with fail
          refine (awake8 _).mono ?_
          rintro e w0 ⟨rfl, hb⟩
          replace HK := Lib.hid (HK.out.after hb)
          clear hb
          obtain ⟨a0, a1, b0, b1⟩ := img4 HK.out
          go_wp2_with fail
          refine (C1.out _).mono ?_
          rintro e w1 ⟨rfl, hb⟩
          replace HK := Lib.hid (HK.out.after hb)
          clear a0 a1 b0 b1
          clear hb
          obtain ⟨a0, a1, b0, b1⟩ := img4 HK.out
          go_wp2_with fail
          refine (C2.out _).mono ?_
          rintro e w2 ⟨rfl, hb⟩
          replace HK := Lib.hid (HK.out.after hb)
          clear a0 a1 b0 b1
          clear hb
          go_wp2_with fail
          go_ret
          exact ⟨rfl, HK.out.be.plain⟩
      | false =>
        rw [h1] at c1
        have C1 := Lib.hid c1
        clear c1 c2 hr hs hw hx h1
        go_enter Try.func7, Try.ntmps7
        go_wp2_with fail
        refine (awake8 _).mono ?_
        rintro e w0 ⟨rfl, hb⟩
        replace HK := Lib.hid (HK.out.after hb)
        clear hb
        obtain ⟨a0, a1, b0, b1⟩ := img4 HK.out
        go_wp2_with fail
        refine (C1.out _).mono ?_
        rintro e w1 ⟨rfl, hb⟩
        replace HK := Lib.hid (HK.out.after hb)
        clear a0 a1 b0 b1
        clear hb
        obtain ⟨a0, a1, b0, b1⟩ := img4 HK.out
        go_wp2_with fail
        go_ret
        exact ⟨rfl, HK.out.be.plain⟩
    · have i2 : decide ((500 : Int) < (m : Int)) = true := decide_eq_true (by omega)
      clear hr hs hw hx
      go_enter Try.func7, Try.ntmps7
      go_wp2_with fail
      refine (awake8 _).mono ?_
      rintro e w0 ⟨rfl, hb⟩
      replace HK := Lib.hid (HK.out.after hb)
      clear hb
      obtain ⟨a0, a1, b0, b1⟩ := img4 HK.out
      go_wp2_with fail
      go_ret
      exact ⟨rfl, HK.out.be.plain⟩
  · have i1 : decide ((500 : Int) < (n : Int)) = true := decide_eq_true (by omega)
    clear hr hs hw hx
    go_enter Try.func7, Try.ntmps7
    go_wp2_with fail
    refine (awake8 _).mono ?_
    rintro e w0 ⟨rfl, hb⟩
    replace HK := Lib.hid (HK.out.after hb)
    clear hb
    obtain ⟨a0, a1, b0, b1⟩ := img4 HK.out
    go_wp2_with fail
    go_ret
    exact ⟨rfl, HK.out.be.plain⟩

set_option maxRecDepth 100000 in
theorem lifted (os : Os) (started : os.Started) (H : Type) (enc : TypeId × Value → H) :
    ReturnsInHanded {} Try.checked os 7 .any (Rows.imageApartSpec.pre6 enc Try.prog Try.f7 Rows.imageApartRow.domain false) (Rows.imageApartSpec.post enc Try.prog Try.f7 false true false false) := by
  refine returnsInHanded_of_change (C := Try.checked) own started (by kernel_rfl) Try.func7
    (ChangeSpec.witness6 (enc := enc) (C := Try.checked) false ⟨#[], #[.agg #[.slice none 0 0, .int .i64 0], .agg #[.slice none 0 0, .int .i64 0], .int .i64 0], []⟩ 8 (by kernel_rfl) (by kernel_rfl) (by kernel_rfl) (by kernel_rfl)) ?_
  intro W base args ds gs before hval0 hW hcnd _
  have hval : ∀ (j : Nat) t v, Try.f7.params[j]? = some t → args[j]? = some v → Value.okWide Try.prog W .any base t v := hval0
  have hW' := hW
  obtain ⟨p, q, hA0, hV, rfl, hfz, hnd⟩ := hW
  have hA : DataW.TrodAll enc Try.prog W 0 (fun _ => true) true Try.f7.params.toList args.toList ds p := hA0
  rw [Try.params7] at hA hval
  obtain ⟨v0, vs0, d0, ds0, p0, q0, hargs, rfl, rfl, h0, r0⟩ := trodAll_cons hA
  obtain ⟨v1, vs1, d1, ds1, p1, q1, rfl, rfl, rfl, h1, r1⟩ := trodAll_cons r0
  obtain ⟨v2, vs2, d2, ds2, p2, q2, rfl, rfl, rfl, h2, r2⟩ := trodAll_cons r1
  obtain ⟨rfl, rfl, rfl⟩ := trodAll_nil r2
  obtain rfl : args = #[v0, v1, v2] := by cases args; simp_all
  obtain ⟨rfl, rfl⟩ := trodVars_none hV
  have lt0 : ∀ x ∈ p0, x.block < W.heap.size := by obtain ⟨m, hm⟩ := h0; exact DataW.trod_lt m _ _ _ hm
  obtain ⟨A0, n0, c0, l0, a0, rfl, hM0, w0⟩ := open_img (hval 0 24 v0 rfl rfl) h0
  have lt1 : ∀ x ∈ p1, x.block < W.heap.size := by obtain ⟨m, hm⟩ := h1; exact DataW.trod_lt m _ _ _ hm
  obtain ⟨A1, n1, c1, l1, a1, rfl, hM1, w1⟩ := open_img (hval 1 24 v1 rfl rfl) h1
  have lt2 : ∀ x ∈ p2, x.block < W.heap.size := by obtain ⟨m, hm⟩ := h2; exact DataW.trod_lt m _ _ _ hm
  have k2 := h2
  obtain ⟨a2, rfl, _, _, w2⟩ := open_int Try.underlying3 (hval 2 3 v2 rfl rfl) k2
  clear hA0 hval0
  refine (walk a2 W hM0 hM1).mono fun e W' ⟨he, bel⟩ => ?_
  subst he
  exact ⟨_, rfl, _, _, _, [], _, [], hW', trodAll_mk1 (shut_bool Try.underlying4 _), (trodAll_cons_mk (Below.trod laidOut (by kernel_rfl) (of_decide_eq_true (by kernel_rfl)) h0 bel lt0) (trodAll_cons_mk (Below.trod laidOut (by kernel_rfl) (of_decide_eq_true (by kernel_rfl)) h1 bel lt1) (trodAll_cons_mk (Below.trod laidOut (by kernel_rfl) (of_decide_eq_true (by kernel_rfl)) h2 bel lt2) trodAll_mk0))), rfl, bel.frame _, fun h => by cases h⟩

theorem over : Rows.imageApartRow.holds Try.pinned (OpenSpec.ofChange Rows.imageApartSpec) :=
  OpenClaim.holds_of_wide 7 Try.f7 rfl rfl rfl rfl rfl rfl rfl ⟨rfl, rfl, rfl, rfl, rfl⟩ rfl rfl rfl rfl rfl (by kernel_rfl) Try.func7 (by kernel_rfl)
    (of_decide_eq_true (by kernel_rfl)) (by unfold Func.isWrapper; first | (rw [if_pos (by decide +kernel)]; kernel_rfl) | (rw [if_neg (by decide +kernel)]; exact ⟨rfl, rfl⟩))
    (fun os started H enc _ => lifted os started H enc)

/-- The statement. -/
theorem proved : Rows.ImageApartSaid := over

end Go.Proofs.Ytmifiadkhmglmaa.imageApart
