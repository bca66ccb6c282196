/- The law MerkleProves: for every slice of digests and every int it returns true, and both read as before. The table that it reads holds what the program's text lays (the card ties it). No other condition. -/
import Derived.Test.YtioiaifmcemjlaaDoorMerW
import Derived.Test.YtioiaifmcemjlaaDoorMerP
import Derived.Test.YtioiaifmcemjlaaDoorMerR
namespace Go.Proofs.YtioiaifmcemjlaaDoor.merkleProves
open Go.ChangeShapes Go.WideShapes Go.ChangeAt Go.RowKit
set_option linter.unusedVariables false

theorem all1 {w W : World} {n : Nat} {r : List (Nat × Obj)} {t : TypeId} {r0 r1 r2 r3 : Int} (h : Kx none w W ((n, .cells #[.int .u32 r0, .int .u32 r1, .int .u32 r2, .int .u32 r3] t (0, 0)) :: r)) : W.cell? ⟨n, 0, none⟩ = some (.int .u32 r0) ∧ W.cell? ⟨n, 1, none⟩ = some (.int .u32 r1) ∧ W.cell? ⟨n, 2, none⟩ = some (.int .u32 r2) ∧ W.cell? ⟨n, 3, none⟩ = some (.int .u32 r3) := by
  obtain ⟨p0, p1, p2, p3, _⟩ := cells4 (h.at 0 rfl)
  exact ⟨p0, p1, p2, p3⟩
theorem all2 {w W : World} {n b o : Nat} {r : List (Nat × Obj)} {t : TypeId} {r0 r1 r2 r3 f0 f1 f2 f3 : Int} (h : Kx none w W ((n, .cells #[.int .u32 r0, .int .u32 r1, .int .u32 r2, .int .u32 r3] t (0, 0)) :: r)) (k : W.cell? ⟨b, o, none⟩ = some (.int .u32 f0) ∧ W.cell? ⟨b, o + 1, none⟩ = some (.int .u32 f1) ∧ W.cell? ⟨b, o + 2, none⟩ = some (.int .u32 f2) ∧ W.cell? ⟨b, o + 3, none⟩ = some (.int .u32 f3)) :
    W.cell? ⟨n, 0, none⟩ = some (.int .u32 r0) ∧ W.cell? ⟨n, 1, none⟩ = some (.int .u32 r1) ∧ W.cell? ⟨n, 2, none⟩ = some (.int .u32 r2) ∧ W.cell? ⟨n, 3, none⟩ = some (.int .u32 r3) ∧ W.cell? ⟨b, o, none⟩ = some (.int .u32 f0) ∧ W.cell? ⟨b, o + 1, none⟩ = some (.int .u32 f1) ∧ W.cell? ⟨b, o + 2, none⟩ = some (.int .u32 f2) ∧ W.cell? ⟨b, o + 3, none⟩ = some (.int .u32 f3) := by
  obtain ⟨p0, p1, p2, p3, _⟩ := cells4 (h.at 0 rfl)
  exact ⟨p0, p1, p2, p3, k⟩
theorem chk_way (n i : Nat) (l : Dl) (hl : l.length = n) (hi : i < n) : chk (mroot l) n i (l.getD i []) (mway l i) = true := by
  rw [chk_same]
  unfold chkr
  rw [up_way n l i hl hi]
  simp [same]
theorem walk_long (A : Option Addr) (n cap : Nat) (i : Int) (w : World) (ht : Tabs w) (hn : 40 < n) (hn' : n ≤ 9223372036854775807) :
    Calls Tryd.prog 4 #[.slice A n cap, .int .i64 i] w fun e w' => e = .returned (.bool true) ∧ Below w.heap.size w w' := by
  have HT := Lib.hid ht
  have i0 : (40 : Int) < (n : Int) := by omega
  clear ht
  go_enter Tryd.func4, Tryd.ntmps4
  go_wp2_with fail
  refine (alive_any _ HT.out).mono ?_
  rintro e w1 ⟨rfl, hb⟩
  have HB := Lib.hid hb
  clear hb
  go_wp2_with fail
  go_ret
  exact ⟨rfl, HB.out⟩
set_option maxRecDepth 100000 in
set_option maxHeartbeats 4000000 in
theorem walk_no {A : Option Addr} {n cap : Nat} {l : Dl} (i : Int) (w : World) (ht : Tabs w) (hl : l.length = n) (hn : n ≤ 40) (hc : n ≤ cap) (hm : cap ≤ 9223372036854775807) (hd : Dd w A l) (hi : i < 0 ∨ (n : Int) ≤ i) :
    Calls Tryd.prog 4 #[.slice A n cap, .int .i64 i] w fun e w' => e = .returned (.bool true) ∧ Below w.heap.size w w' := by
  have o := hd.1.mroot
  have c1 := fun w => root_any (A := A) (cap := cap) w hl (by omega) hc hm
  have c2 := fun w => rootr_any (A := A) (cap := cap) w hl (by omega) hc hm
  obtain ⟨r0, r1, r2, r3, hr, _⟩ := ok4 o
  rw [hr, ag4] at c1 c2
  have C1 := Lib.hid c1
  have C2 := Lib.hid c2
  have C3 := Lib.hid (fun w => prove_no (A := A) (cap := cap) i w (by omega : n ≤ 9223372036854775807) hi)
  have C4 := Lib.hid (fun w => prover_no (A := A) (cap := cap) i w (by omega : n ≤ 9223372036854775807) hi)
  have C5 := Lib.hid (fun (A B : Option Addr) (c1 c2 : Nat) (w : World) => samer_nil A B c1 c2 w)
  have HD := Lib.hid hd
  have HT := Lib.hid ht
  have HK := Lib.hid (Kx.nil none w)
  have i0 : ¬ (40 : Int) < (n : Int) := by omega
  have q4 := eq4s
  have s0 := same_self
  clear c1 c2 hr o hd ht hl hi
  go_enter Tryd.func4, Tryd.ntmps4
  go_wp2_with fail
  refine (alive_any _ HT.out).mono ?_
  rintro e w1 ⟨rfl, hb⟩
  replace HK := Lib.hid (HK.out.after hb)
  clear hb
  go_wp2_with fail
  refine (C1.out _ (HD.out.kept HK.out.be.plain) (HT.out.oldn HK.out)).mono ?_
  rintro e w2 ⟨rfl, hb⟩
  replace HK := Lib.hid ((HK.out.after hb).add _ rfl (.cells #[.int .u32 r0, .int .u32 r1, .int .u32 r2, .int .u32 r3] 29 (0, 0)))
  clear hb
  go_wp2_with fail
  refine (C3.out _).mono ?_
  rintro e w3 ⟨v, rfl, ho, hb⟩
  obtain ⟨A1, k1, rfl, _, _, _, _⟩ := Dd.own (l := []) ho (fun d hd => by simp at hd)
  replace HK := Lib.hid (HK.out.after hb)
  clear ho hb
  go_wp2_with fail
  refine (C4.out _).mono ?_
  rintro e w4 ⟨v, rfl, ho, hb⟩
  obtain ⟨A2, k2, rfl, _, _, _, _⟩ := Dd.own (l := []) ho (fun d hd => by simp at hd)
  replace HK := Lib.hid (HK.out.after hb).drew
  clear ho hb
  go_wp2_with fail
  obtain ⟨a0, a1, a2, a3, _⟩ := cells4 (HK.out.at 0 rfl)
  go_region_held3 (fun W => W.cell? ⟨w2.heap.size, 0, none⟩ = some (.int .u32 r0) ∧ W.cell? ⟨w2.heap.size, 1, none⟩ = some (.int .u32 r1) ∧ W.cell? ⟨w2.heap.size, 2, none⟩ = some (.int .u32 r2) ∧ W.cell? ⟨w2.heap.size, 3, none⟩ = some (.int .u32 r3))
    (with_reducible exact all1 HK.out)
    (first
      | (go_at_call 18; (with_reducible refine (C2.out _ (HD.out.kept HK.out.be.plain) (HT.out.oldn HK.out)).mono ?_); rintro e w' ⟨rfl, hb⟩; replace HK := Lib.hid (HK.out.after hb); clear hb)
      | (go_at_call 19; (refine (C5.out _ _ _ _ _).mono ?_); rintro e w' ⟨rfl, hb⟩; replace HK := Lib.hid (HK.out.after hb); clear hb))
  all_goals
    go_wp2_with fail
    go_quiet (fail)
    go_wp2_with fail
    replace HK := Lib.hid (HK.out.drewN nq)
    go_ret
    exact ⟨rfl, HK.out.be.plain⟩
set_option maxRecDepth 100000 in
set_option maxHeartbeats 8000000 in
theorem walk_yes {A : Option Addr} {n cap i : Nat} {l : Dl} (w : World) (ht : Tabs w) (hl : l.length = n) (hn : n ≤ 40) (hc : n ≤ cap) (hm : cap ≤ 9223372036854775807) (hd : Dd w A l) (hi : i < n) :
    Calls Tryd.prog 4 #[.slice A n cap, .int .i64 (i : Int)] w fun e w' => e = .returned (.bool true) ∧ Below w.heap.size w w' := by
  obtain ⟨b, off, rfl, hr⟩ := hd.2 (fun e => by rw [e] at hl; simp at hl; omega)
  obtain ⟨f0, f1, f2, f3, hj, of⟩ := hr.get (j := i) (by omega)
  have hget : l.getD i [] = [f0, f1, f2, f3] := by rw [List.getD_eq_getElem?_getD, hj]; rfl
  have hck := chk_way n i l hl hi
  rw [hget] at hck
  have hps := way_short 10 l i (by omega)
  have hpo := way_oks n l i hl hd.1
  have o := hd.1.mroot
  have c1 := fun w => root_any (A := some ⟨b, off, none⟩) (cap := cap) w hl (by omega) hc hm
  have c2 := fun w => rootr_any (A := some ⟨b, off, none⟩) (cap := cap) w hl (by omega) hc hm
  have C3 := Lib.hid (fun w => prove_yes (A := some ⟨b, off, none⟩) (cap := cap) w hl (by omega) hc hm hi)
  have C4 := Lib.hid (fun w => prover_yes (A := some ⟨b, off, none⟩) (cap := cap) w hl (by omega) hc hm hi)
  obtain ⟨r0, r1, r2, r3, hrr, _⟩ := ok4 o
  rw [hrr, ag4] at c1 c2
  rw [hrr] at hck
  obtain ⟨P, hP⟩ : ∃ P, mway l i = P := ⟨_, rfl⟩
  rw [hP] at C3 C4 hps hpo hck
  obtain ⟨q, hq⟩ : ∃ q, P.length = q := ⟨_, rfl⟩
  rw [hq] at hps
  have C1 := Lib.hid c1
  have C2 := Lib.hid c2
  have C5 := Lib.hid (show ∀ (A B : Option Addr) (c1 c2 : Nat) (w : World), Dd w A P → Dd w B P → Calls Tryd.prog 19 #[.slice A q c1, .slice B q c2] w fun e w' => e = .returned (.bool true) ∧ Below w.heap.size w w' from fun A B c1 c2 w d1 d2 => by
    have := samer (c1 := c1) (c2 := c2) w hq hq (by omega) d1 d2
    rw [sameL_yes] at this
    exact this)
  have C6 := Lib.hid (show ∀ (A : Option Addr) (c : Nat) (w : World), q ≤ c → c ≤ 9223372036854775807 → Dd w A P → Tabs w → Calls Tryd.prog 20 #[.agg #[.int .u32 r0, .int .u32 r1, .int .u32 r2, .int .u32 r3], .int .i64 (n : Int), .int .i64 (i : Int), .agg #[.int .u32 f0, .int .u32 f1, .int .u32 f2, .int .u32 f3], .slice A q c] w fun e w' => e = .returned (.bool true) ∧ Below w.heap.size w w' from fun A c w h1 h2 d t => by
    have := check_yes (r0 := r0) (r1 := r1) (r2 := r2) (r3 := r3) w hi (by omega) hq (by omega) h1 h2 of d t
    rw [hck, ag4, ag4] at this
    exact this)
  have HPO := Lib.hid hpo
  have HQ := Lib.hid hq
  have HD := Lib.hid hd
  have HR := Lib.hid hr
  have HJ := Lib.hid hj
  have HT := Lib.hid ht
  have HK := Lib.hid (Kx.nil none w)
  have i0 : ¬ (40 : Int) < (n : Int) := by omega
  have i1 : 0 ≤ (i : Int) := by omega
  have i2 : (i : Int) < (n : Int) := by omega
  have q4 := eq4s
  have s0 := same_self
  clear c1 c2 hr hrr o hd ht hl hj hget hpo hP hq hck of
  go_enter Tryd.func4, Tryd.ntmps4
  go_wp2_with fail
  refine (alive_any _ HT.out).mono ?_
  rintro e w1 ⟨rfl, hb⟩
  replace HK := Lib.hid (HK.out.after hb)
  clear hb
  go_wp2_with fail
  refine (C1.out _ (HD.out.kept HK.out.be.plain) (HT.out.oldn HK.out)).mono ?_
  rintro e w2 ⟨rfl, hb⟩
  replace HK := Lib.hid ((HK.out.after hb).add _ rfl (.cells #[.int .u32 r0, .int .u32 r1, .int .u32 r2, .int .u32 r3] 29 (0, 0)))
  clear hb
  go_wp2_with fail
  refine (C3.out _ (HD.out.kept HK.out.be.plain) (HT.out.oldn HK.out)).mono ?_
  rintro e w3 ⟨v, rfl, ho, hb⟩
  obtain ⟨A1, k1, rfl, _, hk1, hk2, hd1⟩ := Dd.own ho HPO.out
  rw [HQ.out] at hk1
  have hk2' : k1 ≤ 9223372036854775807 := by unfold maxLen at hk2; omega
  have HD1 := Lib.hid hd1
  replace HK := Lib.hid (HK.out.after hb)
  clear ho hb hd1 hk2
  rw [HQ.out]
  go_wp2_with fail
  refine (C4.out _ (HD.out.kept HK.out.be.plain) (HT.out.oldn HK.out)).mono ?_
  rintro e w4 ⟨v, rfl, ho, hb⟩
  obtain ⟨A2, k2, rfl, _, hk3, hk4, hd2⟩ := Dd.own ho HPO.out
  replace HK := Lib.hid (HK.out.after hb).drew
  replace HD1 := Lib.hid (HD1.out.kept hb).drew
  have HD2 := Lib.hid hd2.drew
  clear ho hb hd2 hk3 hk4
  rw [HQ.out]
  go_wp2_with fail
  go_region_held3 (fun W => W.cell? ⟨w2.heap.size, 0, none⟩ = some (.int .u32 r0) ∧ W.cell? ⟨w2.heap.size, 1, none⟩ = some (.int .u32 r1) ∧ W.cell? ⟨w2.heap.size, 2, none⟩ = some (.int .u32 r2) ∧ W.cell? ⟨w2.heap.size, 3, none⟩ = some (.int .u32 r3))
    (with_reducible exact all1 HK.out)
    (first
      | (go_at_call 18; (with_reducible refine (C2.out _ (HD.out.kept HK.out.be.plain) (HT.out.oldn HK.out)).mono ?_); rintro e w' ⟨rfl, hb⟩; replace HK := Lib.hid (HK.out.after hb); replace HD1 := Lib.hid (HD1.out.kept hb); replace HD2 := Lib.hid (HD2.out.kept hb); clear hb)
      | (go_at_call 19; (refine (C5.out _ _ _ _ _ HD1.out HD2.out).mono ?_); rintro e w' ⟨rfl, hb⟩; replace HK := Lib.hid (HK.out.after hb); replace HD1 := Lib.hid (HD1.out.kept hb); clear hb))
  all_goals
    replace HK := Lib.hid HK.out.drew
    replace HD1 := Lib.hid HD1.out.drew
    go_wp2_with fail
    go_region_held3 (fun W => W.cell? ⟨w2.heap.size, 0, none⟩ = some (.int .u32 r0) ∧ W.cell? ⟨w2.heap.size, 1, none⟩ = some (.int .u32 r1) ∧ W.cell? ⟨w2.heap.size, 2, none⟩ = some (.int .u32 r2) ∧ W.cell? ⟨w2.heap.size, 3, none⟩ = some (.int .u32 r3) ∧ W.cell? ⟨b, off + i * 4, none⟩ = some (.int .u32 f0) ∧ W.cell? ⟨b, off + i * 4 + 1, none⟩ = some (.int .u32 f1) ∧ W.cell? ⟨b, off + i * 4 + 2, none⟩ = some (.int .u32 f2) ∧ W.cell? ⟨b, off + i * 4 + 3, none⟩ = some (.int .u32 f3))
      (with_reducible exact all2 HK.out ((HR.out.oldn HK.out).four HJ.out))
      (first
        | (go_at_call 20; (with_reducible refine (C6.out _ _ _ hk1 hk2' HD1.out (HT.out.oldn HK.out)).mono ?_); rintro e w' ⟨rfl, hb⟩; replace HK := Lib.hid (HK.out.after hb); clear hb))
    all_goals
      go_wp2_with fail
      go_ret
      exact ⟨rfl, HK.out.be.plain⟩
theorem walk {A : Option Addr} {n cap : Nat} {l : Dl} (i : Int) (w0 : (Lit.int .i64 i).wf = true) (hl : l.length = n) (hc : n ≤ cap) (hm : cap ≤ maxLen) (w : World) (hd : Dd w A l) (ht : Tabs w) :
    Calls Tryd.prog 4 #[.slice A n cap, .int .i64 i] w fun e w' => e = .returned (.bool true) ∧ Below w.heap.size w w' := by
  unfold maxLen at hm
  by_cases h : 40 < n
  · exact walk_long A n cap i w ht h (by omega)
  · by_cases hi : 0 ≤ i ∧ i < (n : Int)
    · obtain ⟨j, rfl⟩ := Int.eq_ofNat_of_zero_le hi.1
      exact walk_yes w ht hl (by omega) hc (by omega) hd (by omega)
    · exact walk_no i w ht hl (by omega) hc (by omega) hd (by omega)

set_option maxRecDepth 100000 in
theorem contract (H : Type) (enc : TypeId × Value → H) (W : World) (base : Nat) (args : Array Value) (ds gs : List (DataW H)) (before : List MemPlace)
    (hval : ∀ (j : Nat) t v, Tryd.f4.params[j]? = some t → args[j]? = some v → Value.okWide Tryd.prog W .any base t v)
    (hW : DataW.Whole enc Tryd.prog Tryd.f4.params.toList Rows.merkleProvesSpec.vars false W args.toList ds gs before) (hL : laidMetH Tryd.prog Rows.merkleProvesRow.laid W) :
    Calls Tryd.prog 4 args W fun e W' => ∃ v, e = .returned v ∧ Rows.merkleProvesSpec.post enc Tryd.prog Tryd.f4 false true false false W args v W' := by
  have hW' := hW
  obtain ⟨p, q, hA0, hV, rfl, hfz, hnd⟩ := hW
  have hA : DataW.TrodAll enc Tryd.prog W 0 (fun _ => true) true Tryd.f4.params.toList args.toList ds p := hA0
  rw [Tryd.params4] at hA hval
  obtain ⟨v0, vs0, d0, ds0, p0, q0, hargs, rfl, rfl, h0, r0⟩ := trodAll_cons hA
  obtain ⟨v1, vs1, d1, ds1, p1, q1, rfl, rfl, rfl, h1, r1⟩ := trodAll_cons r0
  obtain ⟨rfl, rfl, rfl⟩ := trodAll_nil r1
  obtain rfl : args = #[v0, v1] := by cases args; simp_all
  obtain ⟨rfl, rfl⟩ := trodVars_none hV
  have lt0 : ∀ x ∈ p0, x.block < W.heap.size := by obtain ⟨m, hm⟩ := h0; exact DataW.trod_lt m _ _ _ hm
  obtain ⟨A0, n0, c0, l0, rfl, hl0, hc0, hm0, hd0⟩ := open_sl (hval 0 32 v0 rfl rfl) h0
  have lt1 : ∀ x ∈ p1, x.block < W.heap.size := by obtain ⟨m, hm⟩ := h1; exact DataW.trod_lt m _ _ _ hm
  have k1 := h1
  obtain ⟨a1, rfl, _, _, w1⟩ := open_int Tryd.underlying3 (hval 1 3 v1 rfl rfl) k1
  clear hA0
  refine (walk (A := A0) (n := n0) (cap := c0) (l := l0) a1 w1 hl0 hc0 hm0 W hd0 (tabs_of hL)).mono fun e W' ⟨he, bel⟩ => ?_
  subst he
  exact ⟨_, rfl, _, _, _, [], _, [], hW', trodAll_mk1 (shut_bool Tryd.underlying4 _), (trodAll_cons_mk (Below.trod laidOut (by kernel_rfl) (of_decide_eq_true (by kernel_rfl)) h0 bel lt0) (trodAll_cons_mk (Below.trod laidOut (by kernel_rfl) (of_decide_eq_true (by kernel_rfl)) h1 bel lt1) trodAll_mk0)), rfl, bel.frame _, fun h => by cases h⟩

theorem laid_met (os : Os) : laidMet Tryd.prog Rows.merkleProvesRow.laid ((laidWorld os).forCall (fun _ _ => 0) ⟨#[], #[.slice none 0 0, .int .i64 0], []⟩).memory :=
  laidMet_of_run' 8 (by kernel_rfl) (by kernel_rfl)
theorem reads (os : Os) {H : Type} (enc : TypeId × Value → H) : ∃ places, DataW.whole enc Tryd.prog ((laidWorld os).forCall (fun _ _ => 0) ⟨#[], #[.slice none 0 0, .int .i64 0], []⟩).memory Tryd.f4.params.toList Rows.merkleProvesSpec.vars false (#[.slice none 0 0, .int .i64 0] : Array Value).toList 8 = some ([.nil, .lit (.int .i64 0)], [], places) :=
  ⟨[], by kernel_rfl⟩

set_option maxRecDepth 100000 in
theorem lifted (os : Os) (started : os.Started) (H : Type) (enc : TypeId × Value → H) (F : Stop.Interp) :
    ReturnsInHanded {} Tryd.checked os 4 .any ((OpenSpec.ofChange Rows.merkleProvesSpec).preRow enc Tryd.prog Tryd.f4 Rows.merkleProvesRow.domain false Rows.merkleProvesRow.laid) (((OpenSpec.ofChange Rows.merkleProvesSpec).at F).post enc Tryd.prog Tryd.f4 false true false false) := by
  obtain ⟨places, hx⟩ := reads os enc
  refine returnsInHanded_of_row (C := Tryd.checked) (s := OpenSpec.ofChange Rows.merkleProvesSpec) own started (by kernel_rfl) Tryd.func4
    (witness_row_at (enc := enc) (C := Tryd.checked) false (laidWorld os) #[.slice none 0 0, .int .i64 0] rfl (by kernel_rfl) (by kernel_rfl) (by kernel_rfl)
      (OpenSpec.preRow_of_cond 8 hx (by kernel_rfl) (fun k hk => by cases hk) (by kernel_rfl) (laid_met os))) ?_
  intro W base args ds gs before hval hW _ _ _ hL _ _
  exact contract H enc W base args ds gs before hval hW hL

theorem said : Rows.MerkleProvesSaid :=
  OpenClaim.holds_of_cond 4 Tryd.f4 rfl rfl rfl rfl rfl rfl rfl ⟨rfl, rfl, rfl, rfl, rfl⟩ rfl rfl rfl rfl rfl (by kernel_rfl) Tryd.func4 (by kernel_rfl)
    (of_decide_eq_true (by kernel_rfl)) (by unfold Func.isWrapper; first | (rw [if_pos (by decide +kernel)]; kernel_rfl) | (rw [if_neg (by decide +kernel)]; exact ⟨rfl, rfl⟩))
    (fun os started H enc _ F => by rw [OpenClaim.pre_eq_preRow]; exact lifted os started H enc F)

theorem plain (f : FuncId) (fn : Func) (hf : Tryd.pinned.checked.prog.funcNamed "seedcorn/seedcornlaw04.MerkleProves" = some f) (hfn : Tryd.pinned.checked.prog.funcs[f]? = some fn) :
    false = Tryd.pinned.checked.prog.looks [] ∧ ∀ (j : Nat) t, fn.params[j]? = some t → Tryd.pinned.checked.prog.wantsStandIn t = false := by
  obtain rfl : f = 4 := Option.some.inj ((show Tryd.prog.funcNamed "seedcorn/seedcornlaw04.MerkleProves" = some 4 by kernel_rfl).symm.trans hf) |>.symm
  obtain rfl : fn = Tryd.f4 := (Option.some.inj (Tryd.func4.symm.trans hfn)).symm
  refine ⟨by kernel_rfl, fun j t ht => ?_⟩
  rw [Tryd.params4] at ht
  have hm := Array.mem_of_getElem? ht
  have hm' : t = 32 ∨ t = 3 := by simpa using hm
  rcases hm' with rfl | rfl
  · exact (show Tryd.prog.wantsStandIn 32 = false by kernel_rfl)
  · exact (show Tryd.prog.wantsStandIn 3 = false by kernel_rfl)

/-- The card. -/
theorem card : Rows.MerkleProvesCardSaid :=
  Claim7.holds_tied_plain_at .later [] _ _ _ _ said (fun _ h => by cases h) (by kernel_rfl) (fun _ h => by cases h) merkleProves_row_tie rfl ⟨rfl, rfl⟩ (by kernel_rfl) rfl plain (by kernel_rfl)
end Go.Proofs.YtioiaifmcemjlaaDoor.merkleProves
