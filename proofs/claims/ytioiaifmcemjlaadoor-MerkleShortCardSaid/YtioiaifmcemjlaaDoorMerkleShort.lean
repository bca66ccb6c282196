/- The law MerkleShort: for every digest and every two uint16s it returns true, and all read as before. The table that it reads holds what the program's text lays (the card ties it). No other condition. -/
import Derived.Test.YtioiaifmcemjlaaDoorMerW
import Derived.Test.YtioiaifmcemjlaaDoorMerP
import Derived.Test.YtioiaifmcemjlaaDoorMerR
namespace Go.Proofs.YtioiaifmcemjlaaDoor.merkleShort
open Go.ChangeShapes Go.WideShapes Go.ChangeAt Go.RowKit
set_option linter.unusedVariables false

def elm (d0 d1 d2 d3 : Int) (a : Nat) : Ws := [(d0 + ((a : Int) + 1)) % 4294967296, d1, d2, d3]
structure Sh (w W : World) (B g h N j : Nat) (d0 d1 d2 d3 X : Int) : Prop where
  own : ∃ xs, W.ownsRow B 29 4 (.slice (some ⟨g, 0, none⟩) N N) N xs ∧ ∀ a, a < j → ∀ (i : Nat) (v : Int), (elm d0 d1 d2 d3 a)[i]? = some v → xs[a * 4 + i]? = some (.int .u32 v)
  hx : W.heap[h]? = some (.cells #[.int .u32 X, .int .u32 d1, .int .u32 d2, .int .u32 d3] 29 (0, 0))
  be : Below w.heap.size w W
  lt : h < W.heap.size
theorem Sh.cells {w W : World} {B g h N j : Nat} {d0 d1 d2 d3 X : Int} (s : Sh w W B g h N j d0 d1 d2 d3 X) (hj : j < N) :
    (∃ u0 u1 u2 u3, W.cell? ⟨g, j * 4, none⟩ = some u0 ∧ W.cell? ⟨g, j * 4 + 1, none⟩ = some u1 ∧ W.cell? ⟨g, j * 4 + 2, none⟩ = some u2 ∧ W.cell? ⟨g, j * 4 + 3, none⟩ = some u3) ∧
    W.frozen? ⟨g, j * 4, none⟩ = false ∧ W.frozen? ⟨g, j * 4 + 1, none⟩ = false ∧ W.frozen? ⟨g, j * 4 + 2, none⟩ = false ∧ W.frozen? ⟨g, j * 4 + 3, none⟩ = false := by
  obtain ⟨xs, o, _⟩ := s.own
  have hl := o.1
  have e : ∀ i, i < N * 4 → ∃ u, W.cell? ⟨g, i, none⟩ = some u := fun i hi => ⟨xs[i]'(by omega), by rw [o.cellAt _ hi]; exact List.getElem?_eq_getElem _⟩
  obtain ⟨u0, h0⟩ := e (j * 4) (by omega)
  obtain ⟨u1, h1⟩ := e (j * 4 + 1) (by omega)
  obtain ⟨u2, h2⟩ := e (j * 4 + 2) (by omega)
  obtain ⟨u3, h3⟩ := e (j * 4 + 3) (by omega)
  exact ⟨⟨u0, u1, u2, u3, h0, h1, h2, h3⟩, o.frozenAt _, o.frozenAt _, o.frozenAt _, o.frozenAt _⟩
theorem Sh.step {w W : World} {B g h N j : Nat} {d0 d1 d2 d3 X : Int} (s : Sh w W B g h N j d0 d1 d2 d3 X) (hj : j < N) (hgh : g ≠ h) (hw : w.heap.size ≤ g) (hw' : w.heap.size ≤ h) (Y : Int) (hY : Y = (d0 + ((j : Int) + 1)) % 4294967296) :
    Sh w (((((W.setCell ⟨h, 0, none⟩ (.int .u32 Y)).setCell ⟨g, j * 4, none⟩ (.int .u32 Y)).setCell ⟨g, j * 4 + 1, none⟩ (.int .u32 d1)).setCell ⟨g, j * 4 + 2, none⟩ (.int .u32 d2)).setCell ⟨g, j * 4 + 3, none⟩ (.int .u32 d3)) B g h N (j + 1) d0 d1 d2 d3 Y := by
  obtain ⟨xs, o, hk⟩ := s.own
  have hl := o.1
  have o0 : (W.setCell ⟨h, 0, none⟩ (.int .u32 Y)).ownsRow B 29 4 (.slice (some ⟨g, 0, none⟩) N N) N xs := by
    obtain ⟨p1, p2⟩ := o
    refine ⟨p1, ?_⟩
    rcases p2 with p2 | ⟨g', cap, cur, hv, hb, hg, r⟩
    · exact .inl p2
    · refine .inr ⟨g', cap, cur, hv, hb, ?_, r⟩
      have : g' = g := by
        injection hv with e _ _
        injection e with e
        injection e with e _ _
        exact e.symm
      subst this
      rw [heap_setCell_other _ _ _ _ (by simpa using hgh)]
      exact hg
  have o1 := (o0.stored (j * 4) (.int .u32 Y)).1
  have o2 := (o1.stored (j * 4 + 1) (.int .u32 d1)).1
  have o3 := (o2.stored (j * 4 + 2) (.int .u32 d2)).1
  have o4 := (o3.stored (j * 4 + 3) (.int .u32 d3)).1
  refine ⟨⟨_, o4, ?_⟩, ?_, ?_, by simpa using s.lt⟩
  · intro a ha i v hv
    have hi : i < 4 := (List.getElem?_eq_some_iff.1 hv).1
    by_cases haj : a < j
    · rw [List.getElem?_set_ne (by omega), List.getElem?_set_ne (by omega), List.getElem?_set_ne (by omega), List.getElem?_set_ne (by omega)]
      exact hk a haj i v hv
    · obtain rfl : a = j := by omega
      match i, hi, hv with
      | 0, _, hv =>
        rw [List.getElem?_set_ne (by omega), List.getElem?_set_ne (by omega), List.getElem?_set_ne (by omega), Nat.add_zero, List.getElem?_set_self (by omega)]
        simp [elm] at hv
        rw [hY, hv]
      | 1, _, hv =>
        rw [List.getElem?_set_ne (by omega), List.getElem?_set_ne (by omega), List.getElem?_set_self (by simp; omega)]
        simp [elm] at hv
        rw [hv]
      | 2, _, hv =>
        rw [List.getElem?_set_ne (by omega), List.getElem?_set_self (by simp; omega)]
        simp [elm] at hv
        rw [hv]
      | 3, _, hv =>
        rw [List.getElem?_set_self (by simp; omega)]
        simp [elm] at hv
        rw [hv]
  · rw [heap_setCell_other _ _ _ _ (by simpa using hgh.symm), heap_setCell_other _ _ _ _ (by simpa using hgh.symm), heap_setCell_other _ _ _ _ (by simpa using hgh.symm), heap_setCell_other _ _ _ _ (by simpa using hgh.symm), heap_setCell_same W h 0 _ _ _ s.hx]
    simp
  · exact ((((s.be.setCell (by simpa using hw') _).setCell (by simpa using hw) _).setCell (by simpa using hw) _).setCell (by simpa using hw) _).setCell (by simpa using hw) _
theorem Sh.row {w W : World} {B g h N : Nat} {d0 d1 d2 d3 X : Int} (s : Sh w W B g h N N d0 d1 d2 d3 X) (h1 : W32 d1) (h2 : W32 d2) (h3 : W32 d3) : DRow W g 0 ((List.range N).map (elm d0 d1 d2 d3)) := by
  obtain ⟨xs, o, hk⟩ := s.own
  refine ⟨?_, (o.lt g rfl).2, ?_⟩
  · intro d hd
    obtain ⟨a, _, rfl⟩ := List.mem_map.1 hd
    exact mk4 ⟨by omega, by omega⟩ h1 h2 h3
  · intro j d hj i v hv
    have hjl : j < N := by have := (List.getElem?_eq_some_iff.1 hj).1; simpa using this
    have e : elm d0 d1 d2 d3 j = d := by simpa [hjl] using hj
    subst e
    have hi : i < 4 := (List.getElem?_eq_some_iff.1 hv).1
    rw [Nat.zero_add, o.cellAt _ (by omega)]
    exact hk j hjl i v hv
set_option maxRecDepth 100000 in
set_option maxHeartbeats 8000000 in
theorem walk {d0 d1 d2 d3 : Int} (od : Ok4 [d0, d1, d2, d3]) (a b : Int) (wa : (Lit.int .u16 a).wf = true) (wb : (Lit.int .u16 b).wf = true) (w : World) (ht : Tabs w) :
    Calls Tryd.prog 10 #[ag [d0, d1, d2, d3], .int .u16 a, .int .u16 b] w fun e w' => e = .returned (.bool true) ∧ Below w.heap.size w w' := by
  obtain ⟨_, _, _, _, he, q0, q1, q2, q3⟩ := ok4 od
  injection he with e0 he
  injection he with e1 he
  injection he with e2 he
  injection he with e3 he
  subst e0 e1 e2 e3
  clear he od
  have ha := bounds_u16 wa
  have hb := bounds_u16 wb
  obtain ⟨m, rfl⟩ := Int.eq_ofNat_of_zero_le (show 0 ≤ a by omega)
  obtain ⟨k, rfl⟩ := Int.eq_ofNat_of_zero_le (show 0 ≤ b by omega)
  obtain ⟨N, hN⟩ : ∃ N : Nat, 1 + m % 1000 = N := ⟨_, rfl⟩
  have hN1 : 1 ≤ N := by omega
  have hN2 : N ≤ 1000 := by omega
  have hNI : 1 + (m : Int) % 1000 = (N : Int) := by omega
  obtain ⟨M, hM⟩ : ∃ M : Nat, k % N = M := ⟨_, rfl⟩
  have hM1 : M < N := by rw [← hM]; exact Nat.mod_lt _ (by omega)
  have hMI : (k : Int) % (N : Int) = (M : Int) := by rw [← hM]; push_cast; rfl
  obtain ⟨z0, hz, hz0, hz1, hz2⟩ := info_parts infoDg
  obtain ⟨L, hL⟩ : ∃ L, (List.range N).map (elm d0 d1 d2 d3) = L := ⟨_, rfl⟩
  have hLl : L.length = N := by rw [← hL]; simp
  have hwy := way_short 10 L M (by omega)
  have hgo := goes_short 10 L (M + 1) true (by omega)
  obtain ⟨P, hP⟩ : ∃ P, (mway L M).length = P := ⟨_, rfl⟩
  obtain ⟨Q, hQ⟩ : ∃ Q, (mgoes L (M + 1) true).length = Q := ⟨_, rfl⟩
  have cw := fun (g : Nat) w => prove_yes (A := some ⟨g, 0, none⟩) (cap := N) (n := N) (m := M) (l := L) w hLl (by omega) (Nat.le_refl _) (by omega) hM1
  have cg := fun (g : Nat) w => proveOn_yes (A := some ⟨g, 0, none⟩) (cap := N) (n := N) (m := M + 1) (l := L) w hLl (by omega) (Nat.le_refl _) (by omega) (by omega) (by omega)
  rw [show ((M + 1 : Nat) : Int) = (M : Int) + 1 by omega] at cg
  have HCW := Lib.hid cw
  have HCG := Lib.hid cg
  have HNI := Lib.hid hNI
  have HMI := Lib.hid hMI
  have HP := Lib.hid hP
  have HQ := Lib.hid hQ
  have HL := Lib.hid hL
  rw [hP] at hwy
  rw [hQ] at hgo
  have hT := Lib.hid ht
  have HK := Lib.hid ((Kx.nil none w).add _ rfl (.cells #[.int .u32 d0, .int .u32 d1, .int .u32 d2, .int .u32 d3] 29 (0, 0)))
  have Q1 := Lib.hid q1
  have Q2 := Lib.hid q2
  have Q3 := Lib.hid q3
  rw [ag4]
  have t0 : (m : Int) < 65536 := by omega
  have t1 : (k : Int) < 65536 := by omega
  have t2 : 0 ≤ d0 := q0.1
  have t3 : d0 < 4294967296 := by have := q0.2; omega
  clear cw cg hNI hMI hP hQ hL hLl ht wa wb ha hb q0 q1 q2 q3 hN hM
  go_enter Tryd.func10, Tryd.ntmps10
  go_wp2_with fail
  refine (alive_any _ (hT.out.oldn HK.out)).mono ?_
  rintro e w1 ⟨rfl, hb⟩
  replace HK := Lib.hid (HK.out.after hb)
  have hs1 := hb.size
  simp at hs1
  clear hb
  go_wp2_with (at_make; refine wpList_make_full _ rfl _ _ 32 rfl (w.heap.size + 1) 29 z0 _ 4 Tryd.underlying32 hz hz0 hz1 .i64 .i64 _ _ N rfl rfl HNI.out HNI.out ?b2 ?b3 ?b4 ?_)
  case b2 => rw [hz2]; omega
  case b3 => unfold maxLen; omega
  case b4 => omega
  intro w2 hown hgrow
  have HO := Lib.hid hown
  have HK2 : Hid (Kx none w w2 [(w.heap.size, .cells #[.int .u32 d0, .int .u32 d1, .int .u32 d2, .int .u32 d3] 29 (0, 0))]) := Lib.hid (by
    have hk := HK.out
    refine ⟨fun x hx => ?_, hk.nd, Bx.of (hk.be.plain.grown hgrow hk.be.size (by simp))⟩
    have h0 := hk.all x hx
    exact ⟨by rw [hgrow.block _ h0.2 (by simp)]; exact h0.1, Nat.lt_of_lt_of_le h0.2 hgrow.size⟩)
  have hs2 : w1.heap.size < w2.heap.size := (hown.lt _ rfl).2
  obtain ⟨c0, c1, c2, c3, _⟩ := cells4 (HK2.out.at 0 rfl)
  rw [HNI.out]
  have SH0 : Hid (Sh w (w2.alloc (.cells #[.int .u32 d0, .int .u32 d1, .int .u32 d2, .int .u32 d3] 29 (0, 0))) (w.heap.size + 1) w1.heap.size w2.heap.size N 0 d0 d1 d2 d3 d0) := Lib.hid
    ⟨⟨_, HO.out.alloc _, fun a ha => by omega⟩, heap_alloc_new _ _, HK2.out.be.plain.alloc HK2.out.be.size _, by simp⟩
  clear hown hgrow HO
  obtain ⟨g, hg⟩ : ∃ g, w1.heap.size = g := ⟨_, rfl⟩
  obtain ⟨h, hh⟩ : ∃ h, w2.heap.size = h := ⟨_, rfl⟩
  have ne1 : g ≠ h := by omega
  have ne2 : h ≠ g := by omega
  have le1 : w.heap.size ≤ g := by omega
  have le2 : w.heap.size ≤ h := by omega
  have hh' := hh
  rw [hg, hh] at SH0
  rw [hg]
  go_wp2_with fail
  go_loopw [10] (fun v wr => ∃ (j : Nat) (X : Int), j ≤ N ∧ v = .int .i64 (j : Int) ∧ Hid (X = (d0 + (j : Int)) % 4294967296) ∧ Hid (Sh w wr (w.heap.size + 1) g h N j d0 d1 d2 d3 X)) (fun v _ => N - (intOf v).toNat)
  case atStart => exact ⟨0, d0, Nat.zero_le _, rfl, by show _ = _; omega, SH0⟩
  case round =>
    clear SH0 c0 c1 c2 c3
    obtain ⟨j, X, hj, rfl, HX, HS⟩ := hrel
    by_cases hlt : j < N
    · have x0 : 0 ≤ X := by rw [HX.out]; omega
      have x1 : X < 4294967296 := by rw [HX.out]; omega
      obtain ⟨c0, c1, c2, c3, f0, f1, f2, f3⟩ := cells4 HS.out.hx
      obtain ⟨⟨u0, u1, u2, u3, p0, p1, p2, p3⟩, r0, r1, r2, r3⟩ := HS.out.cells hlt
      have i0 : (0 : Int) ≤ (j : Int) := by omega
      have i1 : (j : Int) < (N : Int) := by omega
      have HY := Lib.hid (show (X + 1) % 4294967296 = (d0 + ((j : Int) + 1)) % 4294967296 by rw [HX.out]; omega)
      have HY2 : Hid ((X + 1) % 4294967296 = (d0 + ((j + 1 : Nat) : Int)) % 4294967296) := Lib.hid (by rw [HY.out]; push_cast; rfl)
      have HS2 := Lib.hid (HS.out.step hlt ne1 le1 le2 _ HY.out)
      go_wp2_with fail
      exact ⟨⟨j + 1, _, by omega, by go_num, HY2, HS2⟩, by simp [intOf]; omega⟩
    · obtain rfl : j = N := by omega
      have hrow := HS.out.row Q1.out Q2.out Q3.out
      rw [HL.out] at hrow
      have HR := Lib.hid hrow
      have HB := Lib.hid HS.out.be
      have o1 := way_oks _ L M rfl hrow.ok
      have o2 := goes_oks _ L (M + 1) true rfl hrow.ok
      have HO1 := Lib.hid o1
      have HO2 := Lib.hid o2
      have y0 : 0 ≤ (k : Int) := by omega
      have y1 : 1 ≤ (j : Int) := by omega
      clear hrow o1 o2
      go_wp2_with fail
      rw [HMI.out]
      refine (HCW.out _ _ (Dd.row HR.out) (hT.out.below HB.out)).mono ?_
      rintro e w3 ⟨v, rfl, ho, hb⟩
      obtain ⟨A1, k1, rfl, _, _, _, _⟩ := Dd.own ho HO1.out
      rw [HP.out]
      replace HR := Lib.hid (HR.out.kept hb)
      replace HB := Lib.hid (HB.out.trans (hb.mono HB.out.size))
      clear ho hb
      have y2 : (M : Int) < 1000 := by omega
      have y3 : 0 ≤ (M : Int) := by omega
      go_wp2_with fail
      refine (HCG.out _ _ (Dd.row HR.out) (hT.out.below HB.out)).mono ?_
      rintro e w4 ⟨v, rfl, ho, hb⟩
      obtain ⟨A2, k2, rfl, _, _, _, _⟩ := Dd.own ho HO2.out
      rw [HQ.out]
      replace HB := Lib.hid (HB.out.trans (hb.mono HB.out.size))
      clear ho hb
      have y4 : (P : Int) ≤ 10 := by omega
      have y5 : (Q : Int) ≤ 11 := by omega
      go_wp2_with fail
      go_ret
      exact ⟨rfl, HB.out⟩

set_option maxRecDepth 100000 in
theorem contract (H : Type) (enc : TypeId × Value → H) (W : World) (base : Nat) (args : Array Value) (ds gs : List (DataW H)) (before : List MemPlace)
    (hval : ∀ (j : Nat) t v, Tryd.f10.params[j]? = some t → args[j]? = some v → Value.okWide Tryd.prog W .any base t v)
    (hW : DataW.Whole enc Tryd.prog Tryd.f10.params.toList Rows.merkleShortSpec.vars false W args.toList ds gs before) (hL : laidMetH Tryd.prog Rows.merkleShortRow.laid W) :
    Calls Tryd.prog 10 args W fun e W' => ∃ v, e = .returned v ∧ Rows.merkleShortSpec.post enc Tryd.prog Tryd.f10 false true false false W args v W' := by
  have hW' := hW
  obtain ⟨p, q, hA0, hV, rfl, hfz, hnd⟩ := hW
  have hA : DataW.TrodAll enc Tryd.prog W 0 (fun _ => true) true Tryd.f10.params.toList args.toList ds p := hA0
  rw [Tryd.params10] at hA hval
  obtain ⟨v0, vs0, d0, ds0, p0, q0, hargs, rfl, rfl, h0, r0⟩ := trodAll_cons hA
  obtain ⟨v1, vs1, d1, ds1, p1, q1, rfl, rfl, rfl, h1, r1⟩ := trodAll_cons r0
  obtain ⟨v2, vs2, d2, ds2, p2, q2, rfl, rfl, rfl, h2, r2⟩ := trodAll_cons r1
  obtain ⟨rfl, rfl, rfl⟩ := trodAll_nil r2
  obtain rfl : args = #[v0, v1, v2] := by cases args; simp_all
  obtain ⟨rfl, rfl⟩ := trodVars_none hV
  have lt0 : ∀ x ∈ p0, x.block < W.heap.size := by obtain ⟨m, hm⟩ := h0; exact DataW.trod_lt m _ _ _ hm
  obtain ⟨x00, x01, x02, x03, rfl, o0⟩ := open_dig (hval 0 29 v0 rfl rfl) h0
  have lt1 : ∀ x ∈ p1, x.block < W.heap.size := by obtain ⟨m, hm⟩ := h1; exact DataW.trod_lt m _ _ _ hm
  have k1 := h1
  obtain ⟨a1, rfl, _, _, w1⟩ := open_int Tryd.underlying53 (hval 1 53 v1 rfl rfl) k1
  have lt2 : ∀ x ∈ p2, x.block < W.heap.size := by obtain ⟨m, hm⟩ := h2; exact DataW.trod_lt m _ _ _ hm
  have k2 := h2
  obtain ⟨a2, rfl, _, _, w2⟩ := open_int Tryd.underlying53 (hval 2 53 v2 rfl rfl) k2
  clear hA0
  refine (walk o0 a1 a2 w1 w2 W  (tabs_of hL)).mono fun e W' ⟨he, bel⟩ => ?_
  subst he
  exact ⟨_, rfl, _, _, _, [], _, [], hW', trodAll_mk1 (shut_bool Tryd.underlying4 _), (trodAll_cons_mk (Below.trod laidOut (by kernel_rfl) (of_decide_eq_true (by kernel_rfl)) h0 bel lt0) (trodAll_cons_mk (Below.trod laidOut (by kernel_rfl) (of_decide_eq_true (by kernel_rfl)) h1 bel lt1) (trodAll_cons_mk (Below.trod laidOut (by kernel_rfl) (of_decide_eq_true (by kernel_rfl)) h2 bel lt2) trodAll_mk0))), rfl, bel.frame _, fun h => by cases h⟩

theorem laid_met (os : Os) : laidMet Tryd.prog Rows.merkleShortRow.laid ((laidWorld os).forCall (fun _ _ => 0) ⟨#[], #[.agg #[.int .u32 0, .int .u32 0, .int .u32 0, .int .u32 0], .int .u16 0, .int .u16 0], []⟩).memory :=
  laidMet_of_run' 8 (by kernel_rfl) (by kernel_rfl)
theorem reads (os : Os) {H : Type} (enc : TypeId × Value → H) : ∃ places, DataW.whole enc Tryd.prog ((laidWorld os).forCall (fun _ _ => 0) ⟨#[], #[.agg #[.int .u32 0, .int .u32 0, .int .u32 0, .int .u32 0], .int .u16 0, .int .u16 0], []⟩).memory Tryd.f10.params.toList Rows.merkleShortSpec.vars false (#[.agg #[.int .u32 0, .int .u32 0, .int .u32 0, .int .u32 0], .int .u16 0, .int .u16 0] : Array Value).toList 8 = some ([.agg [.lit (.int .u32 0), .lit (.int .u32 0), .lit (.int .u32 0), .lit (.int .u32 0)], .lit (.int .u16 0), .lit (.int .u16 0)], [], places) :=
  ⟨[], by kernel_rfl⟩

set_option maxRecDepth 100000 in
theorem lifted (os : Os) (started : os.Started) (H : Type) (enc : TypeId × Value → H) (F : Stop.Interp) :
    ReturnsInHanded {} Tryd.checked os 10 .any ((OpenSpec.ofChange Rows.merkleShortSpec).preRow enc Tryd.prog Tryd.f10 Rows.merkleShortRow.domain false Rows.merkleShortRow.laid) (((OpenSpec.ofChange Rows.merkleShortSpec).at F).post enc Tryd.prog Tryd.f10 false true false false) := by
  obtain ⟨places, hx⟩ := reads os enc
  refine returnsInHanded_of_row (C := Tryd.checked) (s := OpenSpec.ofChange Rows.merkleShortSpec) own started (by kernel_rfl) Tryd.func10
    (witness_row_at (enc := enc) (C := Tryd.checked) false (laidWorld os) #[.agg #[.int .u32 0, .int .u32 0, .int .u32 0, .int .u32 0], .int .u16 0, .int .u16 0] rfl (by kernel_rfl) (by kernel_rfl) (by kernel_rfl)
      (OpenSpec.preRow_of_cond 8 hx (by kernel_rfl) (fun k hk => by cases hk) (by kernel_rfl) (laid_met os))) ?_
  intro W base args ds gs before hval hW _ _ _ hL _ _
  exact contract H enc W base args ds gs before hval hW hL

theorem said : Rows.MerkleShortSaid :=
  OpenClaim.holds_of_cond 10 Tryd.f10 rfl rfl rfl rfl rfl rfl rfl ⟨rfl, rfl, rfl, rfl, rfl⟩ rfl rfl rfl rfl rfl (by kernel_rfl) Tryd.func10 (by kernel_rfl)
    (of_decide_eq_true (by kernel_rfl)) (by unfold Func.isWrapper; first | (rw [if_pos (by decide +kernel)]; kernel_rfl) | (rw [if_neg (by decide +kernel)]; exact ⟨rfl, rfl⟩))
    (fun os started H enc _ F => by rw [OpenClaim.pre_eq_preRow]; exact lifted os started H enc F)

theorem plain (f : FuncId) (fn : Func) (hf : Tryd.pinned.checked.prog.funcNamed "seedcorn/seedcornlaw04.MerkleShort" = some f) (hfn : Tryd.pinned.checked.prog.funcs[f]? = some fn) :
    false = Tryd.pinned.checked.prog.looks [] ∧ ∀ (j : Nat) t, fn.params[j]? = some t → Tryd.pinned.checked.prog.wantsStandIn t = false := by
  obtain rfl : f = 10 := Option.some.inj ((show Tryd.prog.funcNamed "seedcorn/seedcornlaw04.MerkleShort" = some 10 by kernel_rfl).symm.trans hf) |>.symm
  obtain rfl : fn = Tryd.f10 := (Option.some.inj (Tryd.func10.symm.trans hfn)).symm
  refine ⟨by kernel_rfl, fun j t ht => ?_⟩
  rw [Tryd.params10] at ht
  have hm := Array.mem_of_getElem? ht
  have hm' : t = 29 ∨ t = 53 := by simpa using hm
  rcases hm' with rfl | rfl
  · exact (show Tryd.prog.wantsStandIn 29 = false by kernel_rfl)
  · exact (show Tryd.prog.wantsStandIn 53 = false by kernel_rfl)

/-- The card. -/
theorem card : Rows.MerkleShortCardSaid :=
  Claim7.holds_tied_plain_at .later [] _ _ _ _ said (fun _ h => by cases h) (by kernel_rfl) (fun _ h => by cases h) merkleShort_row_tie rfl ⟨rfl, rfl⟩ (by kernel_rfl) rfl plain (by kernel_rfl)
end Go.Proofs.YtioiaifmcemjlaaDoor.merkleShort
