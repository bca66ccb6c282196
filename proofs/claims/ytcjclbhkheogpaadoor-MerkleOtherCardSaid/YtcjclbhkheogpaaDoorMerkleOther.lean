/- The law MerkleOther: for every slice of digests, every int and every digest it returns true, and the slice reads as before. The table that it reads holds what the program's text lays (the card ties it). No other condition. -/
import Derived.Test.YtcjclbhkheogpaaDoorMerW
import Derived.Test.YtcjclbhkheogpaaDoorMerX
import Derived.Test.YtcjclbhkheogpaaDoorMerR
namespace Go.Proofs.YtcjclbhkheogpaaDoor.merkleOther
open Go.ChangeShapes Go.WideShapes Go.ChangeAt Go.RowKit
set_option linter.unusedVariables false

theorem all3 {w W : World} {m n b o : Nat} {r : List (Nat × Obj)} {t u : TypeId} {r0 r1 r2 r3 f0 f1 f2 f3 x0 x1 x2 x3 : Int} (h : Kx none w W ((m, .cells #[.int .u32 f0, .int .u32 f1, .int .u32 f2, .int .u32 f3] t (0, 0)) :: (n, .cells #[.int .u32 r0, .int .u32 r1, .int .u32 r2, .int .u32 r3] u (0, 0)) :: r)) (k : W.cell? ⟨b, o, none⟩ = some (.int .u32 x0) ∧ W.cell? ⟨b, o + 1, none⟩ = some (.int .u32 x1) ∧ W.cell? ⟨b, o + 2, none⟩ = some (.int .u32 x2) ∧ W.cell? ⟨b, o + 3, none⟩ = some (.int .u32 x3)) :
    W.cell? ⟨m, 0, none⟩ = some (.int .u32 f0) ∧ W.cell? ⟨m, 1, none⟩ = some (.int .u32 f1) ∧ W.cell? ⟨m, 2, none⟩ = some (.int .u32 f2) ∧ W.cell? ⟨m, 3, none⟩ = some (.int .u32 f3) ∧ W.cell? ⟨n, 0, none⟩ = some (.int .u32 r0) ∧ W.cell? ⟨n, 1, none⟩ = some (.int .u32 r1) ∧ W.cell? ⟨n, 2, none⟩ = some (.int .u32 r2) ∧ W.cell? ⟨n, 3, none⟩ = some (.int .u32 r3) ∧ W.cell? ⟨b, o, none⟩ = some (.int .u32 x0) ∧ W.cell? ⟨b, o + 1, none⟩ = some (.int .u32 x1) ∧ W.cell? ⟨b, o + 2, none⟩ = some (.int .u32 x2) ∧ W.cell? ⟨b, o + 3, none⟩ = some (.int .u32 x3) := by
  obtain ⟨p0, p1, p2, p3, _⟩ := cells4 (h.at 0 rfl)
  obtain ⟨q0, q1, q2, q3, _⟩ := cells4 (h.at 1 rfl)
  exact ⟨p0, p1, p2, p3, q0, q1, q2, q3, k⟩
theorem walk_long {A : Option Addr} {n cap : Nat} {i : Int} {f0 f1 f2 f3 : Int} (w : World) (ht : Tabs w) (hn' : n ≤ 9223372036854775807) (h : 30 < n ∨ i < 0 ∨ (n : Int) ≤ i) :
    Calls Tryd.prog 4 #[.slice A n cap, .int .i64 i, .agg #[.int .u32 f0, .int .u32 f1, .int .u32 f2, .int .u32 f3]] w fun e w' => e = .returned (.bool true) ∧ Below w.heap.size w w' := by
  have HT := Lib.hid ht
  have HK := Lib.hid ((Kx.nil none w).add _ rfl (.cells #[.int .u32 f0, .int .u32 f1, .int .u32 f2, .int .u32 f3] 26 (0, 0)))
  clear ht
  by_cases h1 : 30 < n
  · have i0 : (30 : Int) < (n : Int) := by omega
    go_enter Tryd.func4, Tryd.ntmps4
    go_wp2_with fail
    refine (alive_any _ (HT.out.oldn HK.out)).mono ?_
    rintro e w1 ⟨rfl, hb⟩
    replace HK := Lib.hid (HK.out.after hb)
    clear hb
    go_wp2_with fail
    go_ret
    exact ⟨rfl, HK.out.be.plain⟩
  · have i0 : ¬ (30 : Int) < (n : Int) := by omega
    by_cases h2 : i < 0
    · go_enter Tryd.func4, Tryd.ntmps4
      go_wp2_with fail
      refine (alive_any _ (HT.out.oldn HK.out)).mono ?_
      rintro e w1 ⟨rfl, hb⟩
      replace HK := Lib.hid (HK.out.after hb)
      clear hb
      go_wp2_with fail
      go_ret
      exact ⟨rfl, HK.out.be.plain⟩
    · have i3 : (n : Int) ≤ i := by omega
      go_enter Tryd.func4, Tryd.ntmps4
      go_wp2_with fail
      refine (alive_any _ (HT.out.oldn HK.out)).mono ?_
      rintro e w1 ⟨rfl, hb⟩
      replace HK := Lib.hid (HK.out.after hb)
      clear hb
      go_wp2_with fail
      go_ret
      exact ⟨rfl, HK.out.be.plain⟩
set_option maxRecDepth 100000 in
set_option maxHeartbeats 8000000 in
theorem walk_yes {A : Option Addr} {n cap i : Nat} {l : Dl} {f0 f1 f2 f3 : Int} (oF : Ok4 [f0, f1, f2, f3]) (w : World) (ht : Tabs w) (hl : l.length = n) (hn : n ≤ 30) (hc : n ≤ cap) (hm : cap ≤ 9223372036854775807) (hd : Dd w A l) (hi : i < n) :
    Calls Tryd.prog 4 #[.slice A n cap, .int .i64 (i : Int), .agg #[.int .u32 f0, .int .u32 f1, .int .u32 f2, .int .u32 f3]] w fun e w' => e = .returned (.bool true) ∧ Below w.heap.size w w' := by
  obtain ⟨b, off, rfl, hr⟩ := hd.2 (fun e => by rw [e] at hl; simp at hl; omega)
  obtain ⟨x0, x1, x2, x3, hj, oX⟩ := hr.get (j := i) (by omega)
  have hget : l.getD i [] = [x0, x1, x2, x3] := by rw [List.getD_eq_getElem?_getD, hj]; rfl
  have hps := way_short 10 l i (by omega)
  have hpo := way_oks n l i hl hd.1
  have o := hd.1.mroot
  have c1 := fun w => root_any (A := some ⟨b, off, none⟩) (cap := cap) w hl (by omega) hc hm
  have C3 := Lib.hid (fun w => prove_yes (A := some ⟨b, off, none⟩) (cap := cap) w hl (by omega) hc hm hi)
  have hfo := fun h1 h2 => chk_fool (leaf := [f0, f1, f2, f3]) hl hi h1 h2
  have hmo := chk_more (root := mroot l) (leaf := [x0, x1, x2, x3]) (d := [f0, f1, f2, f3]) hl hi
  have hle := chk_less (root := mroot l) (leaf := [x0, x1, x2, x3]) hl hi
  obtain ⟨r0, r1, r2, r3, hrr, _⟩ := ok4 o
  rw [hrr, ag4] at c1
  rw [hrr] at hfo hmo hle
  rw [hget] at hfo
  obtain ⟨P, hP⟩ : ∃ P, mway l i = P := ⟨_, rfl⟩
  rw [hP] at C3 hps hpo hfo hmo hle
  obtain ⟨q, hq⟩ : ∃ q, P.length = q := ⟨_, rfl⟩
  rw [hq] at hps
  have C1 := Lib.hid c1
  have HFO := Lib.hid hfo
  have HOF := Lib.hid oF
  have HMO := Lib.hid hmo
  have HLE := Lib.hid hle
  have HPO := Lib.hid hpo
  have HQ := Lib.hid hq
  have HD := Lib.hid hd
  have HR := Lib.hid hr
  have HJ := Lib.hid hj
  have HT := Lib.hid ht
  have HK := Lib.hid ((Kx.nil none w).add _ rfl (.cells #[.int .u32 f0, .int .u32 f1, .int .u32 f2, .int .u32 f3] 26 (0, 0)))
  have i0 : ¬ (30 : Int) < (n : Int) := by omega
  have i1 : ¬ (i : Int) < 0 := by omega
  have i1' : 0 ≤ (i : Int) := by omega
  have i2 : (i : Int) < (n : Int) := by omega
  have i3 : ¬ (n : Int) ≤ (i : Int) := by omega
  have q4 := eq4s
  have s0 := same_self
  obtain ⟨ck, hck⟩ : ∃ ck, chk [r0, r1, r2, r3] n i [f0, f1, f2, f3] P = ck := ⟨_, rfl⟩
  obtain ⟨fl, hfl⟩ : ∃ fl, mfool l i [f0, f1, f2, f3] P = fl := ⟨_, rfl⟩
  rw [hck, hfl] at hfo
  have C6 := Lib.hid (show ∀ (A : Option Addr) (c : Nat) (w : World), q ≤ c → c ≤ 9223372036854775807 → Dd w A P → Tabs w → Calls Tryd.prog 12 #[.agg #[.int .u32 r0, .int .u32 r1, .int .u32 r2, .int .u32 r3], .int .i64 (n : Int), .int .i64 (i : Int), .agg #[.int .u32 f0, .int .u32 f1, .int .u32 f2, .int .u32 f3], .slice A q c] w fun e w' => e = .returned (.bool ck) ∧ Below w.heap.size w w' from fun A c w h1 h2 d t => by
    have := check_yes (r0 := r0) (r1 := r1) (r2 := r2) (r3 := r3) w hi (by omega) hq (by omega) h1 h2 oF d t
    rw [hck, ag4, ag4] at this
    exact this)
  have C7 := Lib.hid (show ∀ (A : Option Addr) (c : Nat) (w : World), q ≤ c → c ≤ 9223372036854775807 → DRow w b off l → Dd w A P → Tabs w → Calls Tryd.prog 13 #[.slice (some ⟨b, off, none⟩) n cap, .int .i64 (i : Int), .agg #[.int .u32 f0, .int .u32 f1, .int .u32 f2, .int .u32 f3], .slice A q c] w fun e w' => e = .returned (.bool fl) ∧ Below w.heap.size w w' from fun A c w h1 h2 hr d t => by
    have := fooled_ref n l i b off q cap c A [f0, f1, f2, f3] P w hl hi (by omega) hc hm hq (by omega) h1 h2 oF hr d t
    rw [hfl, ag4] at this
    exact this)
  have C8 := Lib.hid (show ∀ (A : Option Addr) (c : Nat) (w : World), q + 1 ≤ c → c ≤ 9223372036854775807 → Dd w A (P ++ [[f0, f1, f2, f3]]) → Tabs w → Calls Tryd.prog 12 #[.agg #[.int .u32 r0, .int .u32 r1, .int .u32 r2, .int .u32 r3], .int .i64 (n : Int), .int .i64 (i : Int), .agg #[.int .u32 x0, .int .u32 x1, .int .u32 x2, .int .u32 x3], .slice A (q + 1) c] w fun e w' => e = .returned (.bool false) ∧ Below w.heap.size w w' from fun A c w h1 h2 d t => by
    have := check_yes (r0 := r0) (r1 := r1) (r2 := r2) (r3 := r3) w hi (by omega) (show (P ++ [[f0, f1, f2, f3]]).length = q + 1 by simp [hq]) (by omega) h1 h2 oX d t
    rw [hmo, ag4, ag4] at this
    exact this)
  have C9 := Lib.hid (show q ≠ 0 → ∀ (A : Option Addr) (c : Nat) (w : World), q - 1 ≤ c → c ≤ 9223372036854775807 → Dd w A P.dropLast → Tabs w → Calls Tryd.prog 12 #[.agg #[.int .u32 r0, .int .u32 r1, .int .u32 r2, .int .u32 r3], .int .i64 (n : Int), .int .i64 (i : Int), .agg #[.int .u32 x0, .int .u32 x1, .int .u32 x2, .int .u32 x3], .slice A (q - 1) c] w fun e w' => e = .returned (.bool false) ∧ Below w.heap.size w w' from fun h0 A c w h1 h2 d t => by
    have := check_yes (r0 := r0) (r1 := r1) (r2 := r2) (r3 := r3) w hi (by omega) (show P.dropLast.length = q - 1 by rw [List.length_dropLast, hq]) (by omega) h1 h2 oX d t
    rw [hle (fun e => h0 (by rw [← hq, e]; rfl)), ag4, ag4] at this
    exact this)
  have C10 := Lib.hid (show ∀ (A : Option Addr) (c cap : Nat) (w : World), Calls Tryd.prog 12 #[.agg #[.int .u32 r0, .int .u32 r1, .int .u32 r2, .int .u32 r3], .int .i64 (n : Int), .int .i64 (-1), .agg #[.int .u32 x0, .int .u32 x1, .int .u32 x2, .int .u32 x3], .slice A c cap] w fun e w' => e = .returned (.bool false) ∧ Below w.heap.size w w' from fun A c cap w => by
    have := check_no (r0 := r0) (r1 := r1) (r2 := r2) (r3 := r3) (f0 := x0) (f1 := x1) (f2 := x2) (f3 := x3) (n := (n : Int)) (i := -1) A c cap w (.inr (.inl (by omega)))
    rw [ag4, ag4] at this
    exact this)
  have C11 := Lib.hid (show ∀ (A : Option Addr) (c cap : Nat) (w : World), Calls Tryd.prog 12 #[.agg #[.int .u32 r0, .int .u32 r1, .int .u32 r2, .int .u32 r3], .int .i64 (n : Int), .int .i64 (n : Int), .agg #[.int .u32 x0, .int .u32 x1, .int .u32 x2, .int .u32 x3], .slice A c cap] w fun e w' => e = .returned (.bool false) ∧ Below w.heap.size w w' from fun A c cap w => by
    have := check_no (r0 := r0) (r1 := r1) (r2 := r2) (r3 := r3) (f0 := x0) (f1 := x1) (f2 := x2) (f3 := x3) (n := (n : Int)) (i := (n : Int)) A c cap w (.inr (.inr (by omega)))
    rw [ag4, ag4] at this
    exact this)
  obtain ⟨bs, hbs⟩ : ∃ bs, same [f0, f1, f2, f3] [x0, x1, x2, x3] = bs := ⟨_, rfl⟩
  have hbf : bs = false → ck = true → fl = true := fun e1 e2 => hfo (fun e => by rw [e, same_self] at hbs; rw [← hbs] at e1; cases e1) e2
  have HBF := Lib.hid hbf
  have S1 := Lib.hid hbs
  clear hck hfl hbf hbs c1 hr hrr o hd ht hl hj hget hpo hP hq hfo hmo hle
  go_enter Tryd.func4, Tryd.ntmps4
  go_wp2_with fail
  refine (alive_any _ (HT.out.oldn HK.out)).mono ?_
  rintro e w1 ⟨rfl, hb⟩
  replace HK := Lib.hid (HK.out.after hb)
  clear hb
  go_wp2_with fail
  refine (C1.out _ (HD.out.kept HK.out.be.plain) (HT.out.oldn HK.out)).mono ?_
  rintro e w2 ⟨rfl, hb⟩
  replace HK := Lib.hid ((HK.out.after hb).add _ rfl (.cells #[.int .u32 r0, .int .u32 r1, .int .u32 r2, .int .u32 r3] 26 (0, 0)))
  clear hb
  go_wp2_with fail
  refine (C3.out _ (HD.out.kept HK.out.be.plain) (HT.out.oldn HK.out)).mono ?_
  rintro e w3 ⟨v, rfl, ho, hb⟩
  obtain ⟨A1, k1, rfl, _, hk1, hk2, hd1⟩ := Dd.own ho HPO.out
  rw [HQ.out] at hk1
  have hk2' : k1 ≤ 9223372036854775807 := by unfold maxLen at hk2; omega
  have HLK : Hid (q - 1 ≤ k1) := Lib.hid (by omega)
  have HD1 := Lib.hid hd1
  replace HK := Lib.hid (HK.out.after hb)
  clear ho hb hd1 hk2
  rw [HQ.out]
  go_wp2_with fail
  replace HK := Lib.hid HK.out.drew
  replace HD1 := Lib.hid HD1.out.drew
  go_cut [58] (fun s58 wx => s58 = .bool false ∧ Hid (Kx none w wx [(w.heap.size, .cells #[.int .u32 f0, .int .u32 f1, .int .u32 f2, .int .u32 f3] 26 (0, 0)), (w2.heap.size, .cells #[.int .u32 r0, .int .u32 r1, .int .u32 r2, .int .u32 r3] 26 (0, 0))]) ∧ Hid (Dd wx A1 P))
  case first =>
    cases bs
    · have S2 := S1.out
      refine wp_region_held_drew (S := (fun W => W.cell? ⟨w.heap.size, 0, none⟩ = some (.int .u32 f0) ∧ W.cell? ⟨w.heap.size, 1, none⟩ = some (.int .u32 f1) ∧ W.cell? ⟨w.heap.size, 2, none⟩ = some (.int .u32 f2) ∧ W.cell? ⟨w.heap.size, 3, none⟩ = some (.int .u32 f3) ∧ W.cell? ⟨w2.heap.size, 0, none⟩ = some (.int .u32 r0) ∧ W.cell? ⟨w2.heap.size, 1, none⟩ = some (.int .u32 r1) ∧ W.cell? ⟨w2.heap.size, 2, none⟩ = some (.int .u32 r2) ∧ W.cell? ⟨w2.heap.size, 3, none⟩ = some (.int .u32 r3) ∧ W.cell? ⟨b, off + i * 4, none⟩ = some (.int .u32 x0) ∧ W.cell? ⟨b, off + i * 4 + 1, none⟩ = some (.int .u32 x1) ∧ W.cell? ⟨b, off + i * 4 + 2, none⟩ = some (.int .u32 x2) ∧ W.cell? ⟨b, off + i * 4 + 3, none⟩ = some (.int .u32 x3))) (by kernel_rfl) ?hsx25 (fun hH => ?restx25)
      case hsx25 => (try dsimp only); with_reducible exact all3 HK.out ((HR.out.oldn HK.out).four HJ.out)
      refine wpAnyH_take (i := 0) (v := ?vx26) (by exact op_at rfl) (by kernel_rfl) (by kernel_rfl) (by kernel_rfl) (by exact fun _ _ _ h => h) (Or.inl ⟨by rfl, ?hyx26⟩) hH ?restx26
      case hyx26 => (intro w' hSw; (try dsimp only at hSw); go_simp <;> with_reducible rfl)
      (try simp only [Act.put, List.setIfInBounds_toArray, List.set_cons_zero, List.set_cons_succ])
      refine wpAnyH_take (i := 1) (v := ?vx27) (by exact op_at rfl) (by kernel_rfl) (by kernel_rfl) (by kernel_rfl) (by exact fun _ _ _ h => h) (Or.inl ⟨by rfl, ?hyx27⟩) hH ?restx27
      case hyx27 => (intro w' hSw; (try dsimp only at hSw); go_simp <;> with_reducible rfl)
      (try simp only [Act.put, List.setIfInBounds_toArray, List.set_cons_zero, List.set_cons_succ])
      refine wpAnyH_take (i := 2) (v := ?vx28) (by exact op_at rfl) (by kernel_rfl) (by kernel_rfl) (by kernel_rfl) (by exact fun _ _ _ h => h) (Or.inl ⟨by rfl, ?hyx28⟩) hH ?restx28
      case hyx28 => (intro w' hSw; (try dsimp only at hSw); go_simp <;> with_reducible rfl)
      (try simp only [Act.put, List.setIfInBounds_toArray, List.set_cons_zero, List.set_cons_succ])
      refine wpAnyH_take (i := 3) (v := ?vx29) (by exact op_at rfl) (by kernel_rfl) (by kernel_rfl) (by kernel_rfl) (by exact fun _ _ _ h => h) (Or.inl ⟨by rfl, ?hyx29⟩) hH ?restx29
      case hyx29 => (intro w' hSw; (try dsimp only at hSw); go_simp <;> with_reducible rfl)
      (try simp only [Act.put, List.setIfInBounds_toArray, List.set_cons_zero, List.set_cons_succ])
      refine wpAnyH_take (i := 4) (v := ?vx30) (by exact op_at rfl) (by kernel_rfl) (by kernel_rfl) (by kernel_rfl) (by exact fun _ _ _ h => h) (Or.inl ⟨by rfl, ?hyx30⟩) hH ?restx30
      case hyx30 => (intro w' hSw; (try dsimp only at hSw); go_simp <;> with_reducible rfl)
      (try simp only [Act.put, List.setIfInBounds_toArray, List.set_cons_zero, List.set_cons_succ])
      refine wpAnyH_take (i := 5) (v := ?vx31) (by exact op_at rfl) (by kernel_rfl) (by kernel_rfl) (by kernel_rfl) (by exact fun _ _ _ h => h) (Or.inl ⟨by rfl, ?hyx31⟩) hH ?restx31
      case hyx31 => (intro w' hSw; (try dsimp only at hSw); go_simp <;> with_reducible rfl)
      (try simp only [Act.put, List.setIfInBounds_toArray, List.set_cons_zero, List.set_cons_succ])
      refine wpAnyH_take (i := 6) (v := ?vx32) (by exact op_at rfl) (by kernel_rfl) (by kernel_rfl) (by kernel_rfl) (by exact fun _ _ _ h => h) (Or.inl ⟨by rfl, ?hyx32⟩) hH ?restx32
      case hyx32 => (intro w' hSw; (try dsimp only at hSw); go_simp <;> with_reducible rfl)
      (try simp only [Act.put, List.setIfInBounds_toArray, List.set_cons_zero, List.set_cons_succ])
      refine wpAnyH_take (i := 7) (v := ?vx33) (by exact op_at rfl) (by kernel_rfl) (by kernel_rfl) (by kernel_rfl) (by exact fun _ _ _ h => h) (Or.inl ⟨by rfl, ?hyx33⟩) hH ?restx33
      case hyx33 => (intro w' hSw; (try dsimp only at hSw); go_simp <;> with_reducible rfl)
      (try simp only [Act.put, List.setIfInBounds_toArray, List.set_cons_zero, List.set_cons_succ])
      refine wpAnyH_take (i := 8) (v := ?vx34) (by exact op_at rfl) (by kernel_rfl) (by kernel_rfl) (by kernel_rfl) (by exact fun _ _ _ h => h) (Or.inl ⟨by rfl, ?hyx34⟩) hH ?restx34
      case hyx34 => (intro w' hSw; (try dsimp only at hSw); go_simp <;> with_reducible rfl)
      (try simp only [Act.put, List.setIfInBounds_toArray, List.set_cons_zero, List.set_cons_succ])
      refine wpAnyH_take (i := 9) (v := ?vx35) (by exact op_at rfl) (by kernel_rfl) (by kernel_rfl) (by kernel_rfl) (by exact fun _ _ _ h => h) (Or.inl ⟨by rfl, ?hyx35⟩) hH ?restx35
      case hyx35 => (intro w' hSw; (try dsimp only at hSw); go_simp <;> with_reducible rfl)
      (try simp only [Act.put, List.setIfInBounds_toArray, List.set_cons_zero, List.set_cons_succ])
      refine wpAnyH_take (i := 10) (v := ?vx36) (by exact op_at rfl) (by kernel_rfl) (by kernel_rfl) (by kernel_rfl) (by exact fun _ _ _ h => h) (Or.inl ⟨by rfl, ?hyx36⟩) hH ?restx36
      case hyx36 => (intro w' hSw; (try dsimp only at hSw); go_simp <;> with_reducible rfl)
      (try simp only [Act.put, List.setIfInBounds_toArray, List.set_cons_zero, List.set_cons_succ])
      refine wpAnyH_take (i := 11) (v := ?vx37) (by exact op_at rfl) (by kernel_rfl) (by kernel_rfl) (by kernel_rfl) (by exact fun _ _ _ h => h) (Or.inl ⟨by rfl, ?hyx37⟩) hH ?restx37
      case hyx37 => (intro w' hSw; (try dsimp only at hSw); go_simp <;> with_reducible rfl)
      (try simp only [Act.put, List.setIfInBounds_toArray, List.set_cons_zero, List.set_cons_succ])
      refine wpAnyH_take (i := 12) (v := ?vx38) (by exact op_at rfl) (by kernel_rfl) (by kernel_rfl) (by kernel_rfl) (by exact fun _ _ _ h => h) (Or.inl ⟨by rfl, ?hyx38⟩) hH ?restx38
      case hyx38 => (intro w' hSw; (try dsimp only at hSw); go_simp <;> with_reducible rfl)
      (try simp only [Act.put, List.setIfInBounds_toArray, List.set_cons_zero, List.set_cons_succ])
      refine wpAnyH_ready (rs := [13]) (by kernel_rfl) (by simp) ?_
      refine AllReadyH.cons (op_at rfl) (fun K hK => ?_) AllReadyH.nil
      go_simp
      go_at_call 12
      (with_reducible refine (C6.out _ _ _ hk1 hk2' HD1.out (HT.out.oldn HK.out)).mono ?_)
      rintro e w' ⟨rfl, hb⟩
      replace HK := Lib.hid (HK.out.after hb)
      replace HD1 := Lib.hid (HD1.out.kept hb)
      clear hb
      go_simp
      refine hK.out _ _ ?hsx39 (fun hN => ?restx39)
      case hsx39 => (try dsimp only); with_reducible exact all3 HK.out ((HR.out.oldn HK.out).four HJ.out)
      clear hK K hH
      have hH := hN
      clear hN
      (try simp only [Act.put, List.setIfInBounds_toArray, List.set_cons_zero, List.set_cons_succ])
      cases ck
      · skip
        refine wpAnyH_take (i := 14) (v := ?vx40) (by exact op_at rfl) (by kernel_rfl) (by kernel_rfl) (by kernel_rfl) (by exact fun _ _ _ h => h) (Or.inl ⟨by rfl, ?hyx40⟩) hH ?restx40
        case hyx40 => (intro w' hSw; (try dsimp only at hSw); go_simp <;> with_reducible rfl)
        (try simp only [Act.put, List.setIfInBounds_toArray, List.set_cons_zero, List.set_cons_succ])
        refine wpAnyH_take (i := 15) (v := ?vx41) (by exact op_at rfl) (by kernel_rfl) (by kernel_rfl) (by kernel_rfl) (by exact fun _ _ _ h => h) (Or.inl ⟨by rfl, ?hyx41⟩) hH ?restx41
        case hyx41 => (intro w' hSw; (try dsimp only at hSw); go_simp <;> with_reducible rfl)
        (try simp only [Act.put, List.setIfInBounds_toArray, List.set_cons_zero, List.set_cons_succ])
        refine wpAnyH_take (i := 16) (v := undef) (by exact op_at rfl) (by kernel_rfl) (by kernel_rfl) (by kernel_rfl) (by exact fun _ _ _ h => h) (Or.inr ⟨by rfl, rfl⟩) hH ?restx42
        (try simp only [Act.put, List.setIfInBounds_toArray, List.set_cons_zero, List.set_cons_succ])
        refine wpAnyH_take (i := 17) (v := undef) (by exact op_at rfl) (by kernel_rfl) (by kernel_rfl) (by kernel_rfl) (by exact fun _ _ _ h => h) (Or.inr ⟨by rfl, rfl⟩) hH ?restx43
        (try simp only [Act.put, List.setIfInBounds_toArray, List.set_cons_zero, List.set_cons_succ])
        refine wpAnyH_take (i := 18) (v := undef) (by exact op_at rfl) (by kernel_rfl) (by kernel_rfl) (by kernel_rfl) (by exact fun _ _ _ h => h) (Or.inr ⟨by rfl, rfl⟩) hH ?restx44
        (try simp only [Act.put, List.setIfInBounds_toArray, List.set_cons_zero, List.set_cons_succ])
        refine wpAnyH_take (i := 19) (v := undef) (by exact op_at rfl) (by kernel_rfl) (by kernel_rfl) (by kernel_rfl) (by exact fun _ _ _ h => h) (Or.inr ⟨by rfl, rfl⟩) hH ?restx45
        (try simp only [Act.put, List.setIfInBounds_toArray, List.set_cons_zero, List.set_cons_succ])
        refine wpAnyH_take (i := 20) (v := undef) (by exact op_at rfl) (by kernel_rfl) (by kernel_rfl) (by kernel_rfl) (by exact fun _ _ _ h => h) (Or.inr ⟨by rfl, rfl⟩) hH ?restx46
        (try simp only [Act.put, List.setIfInBounds_toArray, List.set_cons_zero, List.set_cons_succ])
        refine wpAnyH_take (i := 21) (v := undef) (by exact op_at rfl) (by kernel_rfl) (by kernel_rfl) (by kernel_rfl) (by exact fun _ _ _ h => h) (Or.inr ⟨by rfl, rfl⟩) hH ?restx47
        (try simp only [Act.put, List.setIfInBounds_toArray, List.set_cons_zero, List.set_cons_succ])
        refine wpAnyH_take (i := 22) (v := ?vx48) (by exact op_at rfl) (by kernel_rfl) (by kernel_rfl) (by kernel_rfl) (by exact fun _ _ _ h => h) (Or.inl ⟨by rfl, ?hyx48⟩) hH ?restx48
        case hyx48 => (intro w' hSw; (try dsimp only at hSw); go_simp <;> with_reducible rfl)
        (try simp only [Act.put, List.setIfInBounds_toArray, List.set_cons_zero, List.set_cons_succ])
        refine wpAnyH_done (by kernel_rfl) ?_ _
        go_wp2_with fail
        go_meet
        exact ⟨rfl, HK, HD1⟩
      · obtain rfl : fl = true := HBF.out rfl rfl
        refine wpAnyH_take (i := 14) (v := ?vx49) (by exact op_at rfl) (by kernel_rfl) (by kernel_rfl) (by kernel_rfl) (by exact fun _ _ _ h => h) (Or.inl ⟨by rfl, ?hyx49⟩) hH ?restx49
        case hyx49 => (intro w' hSw; (try dsimp only at hSw); go_simp <;> with_reducible rfl)
        (try simp only [Act.put, List.setIfInBounds_toArray, List.set_cons_zero, List.set_cons_succ])
        refine wpAnyH_take (i := 15) (v := ?vx50) (by exact op_at rfl) (by kernel_rfl) (by kernel_rfl) (by kernel_rfl) (by exact fun _ _ _ h => h) (Or.inl ⟨by rfl, ?hyx50⟩) hH ?restx50
        case hyx50 => (intro w' hSw; (try dsimp only at hSw); go_simp <;> with_reducible rfl)
        (try simp only [Act.put, List.setIfInBounds_toArray, List.set_cons_zero, List.set_cons_succ])
        refine wpAnyH_take (i := 16) (v := ?vx51) (by exact op_at rfl) (by kernel_rfl) (by kernel_rfl) (by kernel_rfl) (by exact fun _ _ _ h => h) (Or.inl ⟨by rfl, ?hyx51⟩) hH ?restx51
        case hyx51 => (intro w' hSw; (try dsimp only at hSw); go_simp <;> with_reducible rfl)
        (try simp only [Act.put, List.setIfInBounds_toArray, List.set_cons_zero, List.set_cons_succ])
        refine wpAnyH_take (i := 17) (v := ?vx52) (by exact op_at rfl) (by kernel_rfl) (by kernel_rfl) (by kernel_rfl) (by exact fun _ _ _ h => h) (Or.inl ⟨by rfl, ?hyx52⟩) hH ?restx52
        case hyx52 => (intro w' hSw; (try dsimp only at hSw); go_simp <;> with_reducible rfl)
        (try simp only [Act.put, List.setIfInBounds_toArray, List.set_cons_zero, List.set_cons_succ])
        refine wpAnyH_take (i := 18) (v := ?vx53) (by exact op_at rfl) (by kernel_rfl) (by kernel_rfl) (by kernel_rfl) (by exact fun _ _ _ h => h) (Or.inl ⟨by rfl, ?hyx53⟩) hH ?restx53
        case hyx53 => (intro w' hSw; (try dsimp only at hSw); go_simp <;> with_reducible rfl)
        (try simp only [Act.put, List.setIfInBounds_toArray, List.set_cons_zero, List.set_cons_succ])
        refine wpAnyH_take (i := 19) (v := ?vx54) (by exact op_at rfl) (by kernel_rfl) (by kernel_rfl) (by kernel_rfl) (by exact fun _ _ _ h => h) (Or.inl ⟨by rfl, ?hyx54⟩) hH ?restx54
        case hyx54 => (intro w' hSw; (try dsimp only at hSw); go_simp <;> with_reducible rfl)
        (try simp only [Act.put, List.setIfInBounds_toArray, List.set_cons_zero, List.set_cons_succ])
        refine wpAnyH_ready (rs := [20]) (by kernel_rfl) (by simp) ?_
        refine AllReadyH.cons (op_at rfl) (fun K hK => ?_) AllReadyH.nil
        go_simp
        go_at_call 13
        (with_reducible refine (C7.out _ _ _ hk1 hk2' (HR.out.oldn HK.out) HD1.out (HT.out.oldn HK.out)).mono ?_)
        rintro e w' ⟨rfl, hb⟩
        replace HK := Lib.hid (HK.out.after hb)
        replace HD1 := Lib.hid (HD1.out.kept hb)
        clear hb
        go_simp
        refine hK.out _ _ ?hsx55 (fun hN => ?restx55)
        case hsx55 => (try dsimp only); with_reducible exact all3 HK.out ((HR.out.oldn HK.out).four HJ.out)
        clear hK K hH
        have hH := hN
        clear hN
        (try simp only [Act.put, List.setIfInBounds_toArray, List.set_cons_zero, List.set_cons_succ])
        refine wpAnyH_take (i := 21) (v := ?vx56) (by exact op_at rfl) (by kernel_rfl) (by kernel_rfl) (by kernel_rfl) (by exact fun _ _ _ h => h) (Or.inl ⟨by rfl, ?hyx56⟩) hH ?restx56
        case hyx56 => (intro w' hSw; (try dsimp only at hSw); go_simp <;> with_reducible rfl)
        (try simp only [Act.put, List.setIfInBounds_toArray, List.set_cons_zero, List.set_cons_succ])
        refine wpAnyH_take (i := 22) (v := ?vx57) (by exact op_at rfl) (by kernel_rfl) (by kernel_rfl) (by kernel_rfl) (by exact fun _ _ _ h => h) (Or.inl ⟨by rfl, ?hyx57⟩) hH ?restx57
        case hyx57 => (intro w' hSw; (try dsimp only at hSw); go_simp <;> with_reducible rfl)
        (try simp only [Act.put, List.setIfInBounds_toArray, List.set_cons_zero, List.set_cons_succ])
        refine wpAnyH_done (by kernel_rfl) ?_ _
        go_wp2_with fail
        go_meet
        exact ⟨rfl, HK, HD1⟩
    · have S2 := S1.out
      refine wp_region_held_drew (S := (fun W => W.cell? ⟨w.heap.size, 0, none⟩ = some (.int .u32 f0) ∧ W.cell? ⟨w.heap.size, 1, none⟩ = some (.int .u32 f1) ∧ W.cell? ⟨w.heap.size, 2, none⟩ = some (.int .u32 f2) ∧ W.cell? ⟨w.heap.size, 3, none⟩ = some (.int .u32 f3) ∧ W.cell? ⟨w2.heap.size, 0, none⟩ = some (.int .u32 r0) ∧ W.cell? ⟨w2.heap.size, 1, none⟩ = some (.int .u32 r1) ∧ W.cell? ⟨w2.heap.size, 2, none⟩ = some (.int .u32 r2) ∧ W.cell? ⟨w2.heap.size, 3, none⟩ = some (.int .u32 r3) ∧ W.cell? ⟨b, off + i * 4, none⟩ = some (.int .u32 x0) ∧ W.cell? ⟨b, off + i * 4 + 1, none⟩ = some (.int .u32 x1) ∧ W.cell? ⟨b, off + i * 4 + 2, none⟩ = some (.int .u32 x2) ∧ W.cell? ⟨b, off + i * 4 + 3, none⟩ = some (.int .u32 x3))) (by kernel_rfl) ?hsx1 (fun hH => ?restx1)
      case hsx1 => (try dsimp only); with_reducible exact all3 HK.out ((HR.out.oldn HK.out).four HJ.out)
      refine wpAnyH_take (i := 0) (v := ?vx2) (by exact op_at rfl) (by kernel_rfl) (by kernel_rfl) (by kernel_rfl) (by exact fun _ _ _ h => h) (Or.inl ⟨by rfl, ?hyx2⟩) hH ?restx2
      case hyx2 => (intro w' hSw; (try dsimp only at hSw); go_simp <;> with_reducible rfl)
      (try simp only [Act.put, List.setIfInBounds_toArray, List.set_cons_zero, List.set_cons_succ])
      refine wpAnyH_take (i := 1) (v := ?vx3) (by exact op_at rfl) (by kernel_rfl) (by kernel_rfl) (by kernel_rfl) (by exact fun _ _ _ h => h) (Or.inl ⟨by rfl, ?hyx3⟩) hH ?restx3
      case hyx3 => (intro w' hSw; (try dsimp only at hSw); go_simp <;> with_reducible rfl)
      (try simp only [Act.put, List.setIfInBounds_toArray, List.set_cons_zero, List.set_cons_succ])
      refine wpAnyH_take (i := 2) (v := ?vx4) (by exact op_at rfl) (by kernel_rfl) (by kernel_rfl) (by kernel_rfl) (by exact fun _ _ _ h => h) (Or.inl ⟨by rfl, ?hyx4⟩) hH ?restx4
      case hyx4 => (intro w' hSw; (try dsimp only at hSw); go_simp <;> with_reducible rfl)
      (try simp only [Act.put, List.setIfInBounds_toArray, List.set_cons_zero, List.set_cons_succ])
      refine wpAnyH_take (i := 3) (v := ?vx5) (by exact op_at rfl) (by kernel_rfl) (by kernel_rfl) (by kernel_rfl) (by exact fun _ _ _ h => h) (Or.inl ⟨by rfl, ?hyx5⟩) hH ?restx5
      case hyx5 => (intro w' hSw; (try dsimp only at hSw); go_simp <;> with_reducible rfl)
      (try simp only [Act.put, List.setIfInBounds_toArray, List.set_cons_zero, List.set_cons_succ])
      refine wpAnyH_take (i := 4) (v := ?vx6) (by exact op_at rfl) (by kernel_rfl) (by kernel_rfl) (by kernel_rfl) (by exact fun _ _ _ h => h) (Or.inl ⟨by rfl, ?hyx6⟩) hH ?restx6
      case hyx6 => (intro w' hSw; (try dsimp only at hSw); go_simp <;> with_reducible rfl)
      (try simp only [Act.put, List.setIfInBounds_toArray, List.set_cons_zero, List.set_cons_succ])
      refine wpAnyH_take (i := 5) (v := ?vx7) (by exact op_at rfl) (by kernel_rfl) (by kernel_rfl) (by kernel_rfl) (by exact fun _ _ _ h => h) (Or.inl ⟨by rfl, ?hyx7⟩) hH ?restx7
      case hyx7 => (intro w' hSw; (try dsimp only at hSw); go_simp <;> with_reducible rfl)
      (try simp only [Act.put, List.setIfInBounds_toArray, List.set_cons_zero, List.set_cons_succ])
      refine wpAnyH_take (i := 6) (v := ?vx8) (by exact op_at rfl) (by kernel_rfl) (by kernel_rfl) (by kernel_rfl) (by exact fun _ _ _ h => h) (Or.inl ⟨by rfl, ?hyx8⟩) hH ?restx8
      case hyx8 => (intro w' hSw; (try dsimp only at hSw); go_simp <;> with_reducible rfl)
      (try simp only [Act.put, List.setIfInBounds_toArray, List.set_cons_zero, List.set_cons_succ])
      refine wpAnyH_take (i := 7) (v := undef) (by exact op_at rfl) (by kernel_rfl) (by kernel_rfl) (by kernel_rfl) (by exact fun _ _ _ h => h) (Or.inr ⟨by rfl, rfl⟩) hH ?restx9
      (try simp only [Act.put, List.setIfInBounds_toArray, List.set_cons_zero, List.set_cons_succ])
      refine wpAnyH_take (i := 8) (v := undef) (by exact op_at rfl) (by kernel_rfl) (by kernel_rfl) (by kernel_rfl) (by exact fun _ _ _ h => h) (Or.inr ⟨by rfl, rfl⟩) hH ?restx10
      (try simp only [Act.put, List.setIfInBounds_toArray, List.set_cons_zero, List.set_cons_succ])
      refine wpAnyH_take (i := 9) (v := undef) (by exact op_at rfl) (by kernel_rfl) (by kernel_rfl) (by kernel_rfl) (by exact fun _ _ _ h => h) (Or.inr ⟨by rfl, rfl⟩) hH ?restx11
      (try simp only [Act.put, List.setIfInBounds_toArray, List.set_cons_zero, List.set_cons_succ])
      refine wpAnyH_take (i := 10) (v := undef) (by exact op_at rfl) (by kernel_rfl) (by kernel_rfl) (by kernel_rfl) (by exact fun _ _ _ h => h) (Or.inr ⟨by rfl, rfl⟩) hH ?restx12
      (try simp only [Act.put, List.setIfInBounds_toArray, List.set_cons_zero, List.set_cons_succ])
      refine wpAnyH_take (i := 11) (v := undef) (by exact op_at rfl) (by kernel_rfl) (by kernel_rfl) (by kernel_rfl) (by exact fun _ _ _ h => h) (Or.inr ⟨by rfl, rfl⟩) hH ?restx13
      (try simp only [Act.put, List.setIfInBounds_toArray, List.set_cons_zero, List.set_cons_succ])
      refine wpAnyH_take (i := 12) (v := undef) (by exact op_at rfl) (by kernel_rfl) (by kernel_rfl) (by kernel_rfl) (by exact fun _ _ _ h => h) (Or.inr ⟨by rfl, rfl⟩) hH ?restx14
      (try simp only [Act.put, List.setIfInBounds_toArray, List.set_cons_zero, List.set_cons_succ])
      refine wpAnyH_take (i := 13) (v := undef) (by exact op_at rfl) (by kernel_rfl) (by kernel_rfl) (by kernel_rfl) (by exact fun _ _ _ h => h) (Or.inr ⟨by rfl, rfl⟩) hH ?restx15
      (try simp only [Act.put, List.setIfInBounds_toArray, List.set_cons_zero, List.set_cons_succ])
      refine wpAnyH_take (i := 14) (v := ?vx16) (by exact op_at rfl) (by kernel_rfl) (by kernel_rfl) (by kernel_rfl) (by exact fun _ _ _ h => h) (Or.inl ⟨by rfl, ?hyx16⟩) hH ?restx16
      case hyx16 => (intro w' hSw; (try dsimp only at hSw); go_simp <;> with_reducible rfl)
      (try simp only [Act.put, List.setIfInBounds_toArray, List.set_cons_zero, List.set_cons_succ])
      refine wpAnyH_take (i := 15) (v := ?vx17) (by exact op_at rfl) (by kernel_rfl) (by kernel_rfl) (by kernel_rfl) (by exact fun _ _ _ h => h) (Or.inl ⟨by rfl, ?hyx17⟩) hH ?restx17
      case hyx17 => (intro w' hSw; (try dsimp only at hSw); go_simp <;> with_reducible rfl)
      (try simp only [Act.put, List.setIfInBounds_toArray, List.set_cons_zero, List.set_cons_succ])
      refine wpAnyH_take (i := 16) (v := undef) (by exact op_at rfl) (by kernel_rfl) (by kernel_rfl) (by kernel_rfl) (by exact fun _ _ _ h => h) (Or.inr ⟨by rfl, rfl⟩) hH ?restx18
      (try simp only [Act.put, List.setIfInBounds_toArray, List.set_cons_zero, List.set_cons_succ])
      refine wpAnyH_take (i := 17) (v := undef) (by exact op_at rfl) (by kernel_rfl) (by kernel_rfl) (by kernel_rfl) (by exact fun _ _ _ h => h) (Or.inr ⟨by rfl, rfl⟩) hH ?restx19
      (try simp only [Act.put, List.setIfInBounds_toArray, List.set_cons_zero, List.set_cons_succ])
      refine wpAnyH_take (i := 18) (v := undef) (by exact op_at rfl) (by kernel_rfl) (by kernel_rfl) (by kernel_rfl) (by exact fun _ _ _ h => h) (Or.inr ⟨by rfl, rfl⟩) hH ?restx20
      (try simp only [Act.put, List.setIfInBounds_toArray, List.set_cons_zero, List.set_cons_succ])
      refine wpAnyH_take (i := 19) (v := undef) (by exact op_at rfl) (by kernel_rfl) (by kernel_rfl) (by kernel_rfl) (by exact fun _ _ _ h => h) (Or.inr ⟨by rfl, rfl⟩) hH ?restx21
      (try simp only [Act.put, List.setIfInBounds_toArray, List.set_cons_zero, List.set_cons_succ])
      refine wpAnyH_take (i := 20) (v := undef) (by exact op_at rfl) (by kernel_rfl) (by kernel_rfl) (by kernel_rfl) (by exact fun _ _ _ h => h) (Or.inr ⟨by rfl, rfl⟩) hH ?restx22
      (try simp only [Act.put, List.setIfInBounds_toArray, List.set_cons_zero, List.set_cons_succ])
      refine wpAnyH_take (i := 21) (v := undef) (by exact op_at rfl) (by kernel_rfl) (by kernel_rfl) (by kernel_rfl) (by exact fun _ _ _ h => h) (Or.inr ⟨by rfl, rfl⟩) hH ?restx23
      (try simp only [Act.put, List.setIfInBounds_toArray, List.set_cons_zero, List.set_cons_succ])
      refine wpAnyH_take (i := 22) (v := ?vx24) (by exact op_at rfl) (by kernel_rfl) (by kernel_rfl) (by kernel_rfl) (by exact fun _ _ _ h => h) (Or.inl ⟨by rfl, ?hyx24⟩) hH ?restx24
      case hyx24 => (intro w' hSw; (try dsimp only at hSw); go_simp <;> with_reducible rfl)
      (try simp only [Act.put, List.setIfInBounds_toArray, List.set_cons_zero, List.set_cons_succ])
      refine wpAnyH_done (by kernel_rfl) ?_ _
      go_wp2_with fail
      go_meet
      exact ⟨rfl, HK, HD1⟩
  case rest =>
    obtain ⟨rfl, HK, HD1⟩ := hcut
    obtain ⟨B, hB⟩ := HK.out.top
    have HBS := Lib.hid hB
    have HKR := Lib.hid HK.out.drew
    have HDR := Lib.hid HD1.out.drew
    have HLQ : Hid ((mcs P).length = q * 4) := Lib.hid (by rw [cs_length HPO.out, HQ.out])
    have HAN := Lib.hid (HD1.out.none_nil HQ.out)
    obtain ⟨z0, hz, hz0, hz1, hz2⟩ := info_parts infoDg
    obtain ⟨a0, a1, a2, a3, _⟩ := cells4 (HK.out.at 0 rfl)
    have HOK : Hid (Oks (P ++ [[f0, f1, f2, f3]])) := Lib.hid (fun d hd => by
      rcases List.mem_append.1 hd with h | h
      · exact HPO.out d h
      · obtain rfl : d = [f0, f1, f2, f3] := by simpa using h
        exact HOF.out)
    clear hB
    go_wp2_with fail
    go_cut [10] (fun s10 wx => ∃ (A2 : Option Addr) (c2 : Nat), s10 = .slice A2 (q + 1) c2 ∧ q + 1 ≤ c2 ∧ c2 ≤ maxLen ∧ Hid (Kx none w wx [(w.heap.size, .cells #[.int .u32 f0, .int .u32 f1, .int .u32 f2, .int .u32 f3] 26 (0, 0)), (w2.heap.size, .cells #[.int .u32 r0, .int .u32 r1, .int .u32 r2, .int .u32 r3] 26 (0, 0))]) ∧ Hid (Dd wx A1 P) ∧ Hid (Dd wx A2 (P ++ [[f0, f1, f2, f3]])))
    case first =>
      have HE1 : Hid ((wc.drew.alloc (.cells #[] 26 (0, 0))).heap[wc.heap.size]? = some (.cells #[] 26 (0, 0))) := Lib.hid (heap_alloc_new wc.drew _)
      have HE2 : Hid (((wc.drew.alloc (.cells #[] 26 (0, 0))).alloc (.cells #[.int .u32 f0, .int .u32 f1, .int .u32 f2, .int .u32 f3] 26 (0, 0))).heap[wc.heap.size]? = some (.cells #[] 26 (0, 0))) := Lib.hid (by rw [Below.heap_alloc _ _ _ (by simp)]; exact heap_alloc_new wc.drew _)
      have HE3 : Hid (((wc.drew.alloc (.cells #[.int .u32 f0, .int .u32 f1, .int .u32 f2, .int .u32 f3] 26 (0, 0))).alloc (.cells #[] 26 (0, 0))).heap[wc.heap.size + 1]? = some (.cells #[] 26 (0, 0))) := Lib.hid (by have := heap_alloc_new (wc.drew.alloc (.cells #[.int .u32 f0, .int .u32 f1, .int .u32 f2, .int .u32 f3] 26 (0, 0))) (.cells #[] 26 (0, 0)); simpa using this)
      have HL2 : Hid (((wc.drew.alloc (.cells #[] 26 (0, 0))).alloc (.cells #[.int .u32 f0, .int .u32 f1, .int .u32 f2, .int .u32 f3] 26 (0, 0))).heap[wc.heap.size + 1]? = some (.cells #[.int .u32 f0, .int .u32 f1, .int .u32 f2, .int .u32 f3] 26 (0, 0))) := Lib.hid (by have := heap_alloc_new (wc.drew.alloc (.cells #[] 26 (0, 0))) (.cells #[.int .u32 f0, .int .u32 f1, .int .u32 f2, .int .u32 f3] 26 (0, 0)); simpa using this)
      have HL3 : Hid (((wc.drew.alloc (.cells #[.int .u32 f0, .int .u32 f1, .int .u32 f2, .int .u32 f3] 26 (0, 0))).alloc (.cells #[] 26 (0, 0))).heap[wc.heap.size]? = some (.cells #[.int .u32 f0, .int .u32 f1, .int .u32 f2, .int .u32 f3] 26 (0, 0))) := Lib.hid (by rw [Below.heap_alloc _ _ _ (by simp)]; exact heap_alloc_new wc.drew _)
      obtain ⟨e0, e1, e2, e3, _⟩ := cells4 ((HK.out.more (.cells #[] 26 (0, 0))).drew.at 0 rfl)
      go_region_law (first
        | (refine step_append_gen _ (by rfl) _ _ _ (by rfl) B 26 z0 _ 4 16 Tryd.underlying22 hz hz0 hz1 hz2 rfl (by omega) _ 0 [] (by rfl) (own_empty HE1.out (Nat.le_of_eq HBS.out.symm)) A1 q k1 (mcs P) (by rfl) HAN.out HLQ.out (HDR.out.kept ((Below.refl _ _).alloc (Nat.le_refl _) _)).news mcs_one (by unfold maxLen; omega) (by omega) (by have := HBS.out; simp; omega) ?_; intro v1 w4 hown1 hgrow1; have HBE := Lib.hid (below_ap ((Below.refl B wc).drew.alloc (Nat.le_of_eq HBS.out.symm) (.cells #[] 26 (0, 0))) hgrow1 (Nat.le_of_eq HBS.out.symm) (by have := HBS.out; simp; omega)); rw [Nat.zero_add, List.nil_append] at hown1; have HO1 := Lib.hid hown1; clear hown1 hgrow1; obtain ⟨a0, a1, a2, a3, _⟩ := cells4 ((HK.out.below HBE.out HBS.out).at 0 rfl))
        | (refine step_append_gen _ (by rfl) _ _ _ (by rfl) B 26 z0 _ 4 16 Tryd.underlying22 hz hz0 hz1 hz2 rfl (by omega) _ 0 [] (by rfl) (own_empty HE2.out (Nat.le_of_eq HBS.out.symm)) A1 q k1 (mcs P) (by rfl) HAN.out HLQ.out (HDR.out.kept (((Below.refl _ _).alloc (Nat.le_refl _) _).alloc (by simp) _)).news mcs_one (by unfold maxLen; omega) (by omega) (by have := HBS.out; simp; omega) ?_; intro v1 w4 hown1 hgrow1; have HBE := Lib.hid (below_ap (((Below.refl B wc).drew.alloc (Nat.le_of_eq HBS.out.symm) (.cells #[] 26 (0, 0))).alloc (by have := HBS.out; simp; omega) (.cells #[.int .u32 f0, .int .u32 f1, .int .u32 f2, .int .u32 f3] 26 (0, 0))) hgrow1 (Nat.le_of_eq HBS.out.symm) (by have := HBS.out; simp; omega)); have HLF := Lib.hid (left_ap hgrow1 HL2.out (Nat.succ_ne_self _)); rw [Nat.zero_add, List.nil_append] at hown1; have HO1 := Lib.hid hown1; clear hown1 hgrow1)
        | (refine step_append_gen _ (by rfl) _ _ _ (by rfl) B 26 z0 _ 4 16 Tryd.underlying22 hz hz0 hz1 hz2 rfl (by omega) _ 0 [] (by rfl) (own_empty HE3.out (Nat.le_succ_of_le (Nat.le_of_eq HBS.out.symm))) A1 q k1 (mcs P) (by rfl) HAN.out HLQ.out (HDR.out.kept (((Below.refl _ _).alloc (Nat.le_refl _) _).alloc (by simp) _)).news mcs_one (by unfold maxLen; omega) (by omega) (by have := HBS.out; simp; omega) ?_; intro v1 w4 hown1 hgrow1; have HBE := Lib.hid (below_ap (((Below.refl B wc).drew.alloc (Nat.le_of_eq HBS.out.symm) (.cells #[.int .u32 f0, .int .u32 f1, .int .u32 f2, .int .u32 f3] 26 (0, 0))).alloc (by have := HBS.out; simp; omega) (.cells #[] 26 (0, 0))) hgrow1 (Nat.le_succ_of_le (Nat.le_of_eq HBS.out.symm)) (by have := HBS.out; simp; omega)); have HLF := Lib.hid (left_ap hgrow1 HL3.out (Nat.succ_ne_self _).symm); rw [Nat.zero_add, List.nil_append] at hown1; have HO1 := Lib.hid hown1; clear hown1 hgrow1)
        | (refine step_append_lies _ (by rfl) _ _ _ (by rfl) B 26 z0 _ 4 16 Tryd.underlying22 hz hz0 hz1 hz2 rfl (by omega) _ q (mcs P) (by rfl) (HO1.out.alloc _) ⟨_, 0, none⟩ 1 1 [.int .u32 f0, .int .u32 f1, .int .u32 f2, .int .u32 f3] (by rfl) (by rfl) (World.news_of_block (cs := #[.int .u32 f0, .int .u32 f1, .int .u32 f2, .int .u32 f3]) (t := 26) (fr := (0, 0)) (heap_alloc_new _ _)) (by simp [Value.oneCell']) (by omega) (by unfold maxLen; omega) (by omega) (by have h1 := HBE.out.size; have h2 := HBS.out; simp; omega) _ rfl ?_; intro gg cap2 w5 hown2 hgrow2 hat hlt1; have HBE2 := Lib.hid ((HBE.out.alloc (by have h1 := HBE.out.size; have h2 := HBS.out; omega) (.cells #[.int .u32 f0, .int .u32 f1, .int .u32 f2, .int .u32 f3] 26 (0, 0))).grown hgrow2 (by have h1 := HBE.out.size; have h2 := HBS.out; simp; omega) (fun k hk => (HO1.out.lt k hk).1)); clear hat hlt1 hgrow2)
        | (refine step_append_lies _ (by rfl) _ _ _ (by rfl) B 26 z0 _ 4 16 Tryd.underlying22 hz hz0 hz1 hz2 rfl (by omega) _ q (mcs P) (by rfl) (HO1.out) ⟨_, 0, none⟩ 1 1 [.int .u32 f0, .int .u32 f1, .int .u32 f2, .int .u32 f3] (by rfl) (by rfl) (World.news_of_block (cs := #[.int .u32 f0, .int .u32 f1, .int .u32 f2, .int .u32 f3]) (t := 26) (fr := (0, 0)) (HLF.out)) (by simp [Value.oneCell']) (by omega) (by unfold maxLen; omega) (by omega) (by have h1 := HBE.out.size; have h2 := HBS.out; simp; omega) _ rfl ?_; intro gg cap2 w5 hown2 hgrow2 hat hlt1; have HBE2 := Lib.hid (HBE.out.grown hgrow2 (by have h1 := HBE.out.size; have h2 := HBS.out; omega) (fun k hk => (HO1.out.lt k hk).1)); clear hat hlt1 hgrow2))
      all_goals
        rw [← mcs_snoc] at hown2
        have hd2 := Dd.own2 hown2 HOK.out
        have HD2 := Lib.hid hd2.2.2
        have hcc := hd2.1
        have hcm := hd2.2.1
        clear hown2 hd2
        go_wp2_with fail
        go_meet
        exact ⟨_, _, rfl, hcc, hcm, Lib.hid (HK.out.below HBE2.out HBS.out), Lib.hid (HD1.out.belowB HBE2.out HBS.out), HD2⟩
    case rest =>
      obtain ⟨A2, c2, rfl, hc2, hm2, HK2, HD12, HD2⟩ := hcut
      clear HKR HDR HLQ HAN HBS HK HD1 a0 a1 a2 a3 z0 hz hz0 hz1 hz2
      have hm2' : c2 ≤ 9223372036854775807 := by unfold maxLen at hm2; omega
      have HK := Lib.hid HK2.out.drew
      have HD1 := Lib.hid HD12.out.drew
      have HDM := Lib.hid HD2.out.drew
      clear HK2 HD12 HD2 HOK
      go_wp2_with fail
      go_cut [95] (fun s95 wx => s95 = .bool false ∧ Hid (Kx none w wx [(w.heap.size, .cells #[.int .u32 f0, .int .u32 f1, .int .u32 f2, .int .u32 f3] 26 (0, 0)), (w2.heap.size, .cells #[.int .u32 r0, .int .u32 r1, .int .u32 r2, .int .u32 r3] 26 (0, 0))]) ∧ Hid (Dd wx A1 P))
      case first =>
        by_cases hq0 : q = 0
        · subst hq0
          refine wp_region_held_drew (S := (fun W => W.cell? ⟨w.heap.size, 0, none⟩ = some (.int .u32 f0) ∧ W.cell? ⟨w.heap.size, 1, none⟩ = some (.int .u32 f1) ∧ W.cell? ⟨w.heap.size, 2, none⟩ = some (.int .u32 f2) ∧ W.cell? ⟨w.heap.size, 3, none⟩ = some (.int .u32 f3) ∧ W.cell? ⟨w2.heap.size, 0, none⟩ = some (.int .u32 r0) ∧ W.cell? ⟨w2.heap.size, 1, none⟩ = some (.int .u32 r1) ∧ W.cell? ⟨w2.heap.size, 2, none⟩ = some (.int .u32 r2) ∧ W.cell? ⟨w2.heap.size, 3, none⟩ = some (.int .u32 r3) ∧ W.cell? ⟨b, off + i * 4, none⟩ = some (.int .u32 x0) ∧ W.cell? ⟨b, off + i * 4 + 1, none⟩ = some (.int .u32 x1) ∧ W.cell? ⟨b, off + i * 4 + 2, none⟩ = some (.int .u32 x2) ∧ W.cell? ⟨b, off + i * 4 + 3, none⟩ = some (.int .u32 x3))) (by kernel_rfl) ?hsx58 (fun hH => ?restx58)
          case hsx58 => (try dsimp only); with_reducible exact all3 HK.out ((HR.out.oldn HK.out).four HJ.out)
          refine wpAnyH_take (i := 0) (v := ?vx59) (by exact op_at rfl) (by kernel_rfl) (by kernel_rfl) (by kernel_rfl) (by exact fun _ _ _ h => h) (Or.inl ⟨by rfl, ?hyx59⟩) hH ?restx59
          case hyx59 => (intro w' hSw; (try dsimp only at hSw); go_simp <;> with_reducible rfl)
          (try simp only [Act.put, List.setIfInBounds_toArray, List.set_cons_zero, List.set_cons_succ])
          refine wpAnyH_take (i := 1) (v := ?vx60) (by exact op_at rfl) (by kernel_rfl) (by kernel_rfl) (by kernel_rfl) (by exact fun _ _ _ h => h) (Or.inl ⟨by rfl, ?hyx60⟩) hH ?restx60
          case hyx60 => (intro w' hSw; (try dsimp only at hSw); go_simp <;> with_reducible rfl)
          (try simp only [Act.put, List.setIfInBounds_toArray, List.set_cons_zero, List.set_cons_succ])
          refine wpAnyH_take (i := 2) (v := ?vx61) (by exact op_at rfl) (by kernel_rfl) (by kernel_rfl) (by kernel_rfl) (by exact fun _ _ _ h => h) (Or.inl ⟨by rfl, ?hyx61⟩) hH ?restx61
          case hyx61 => (intro w' hSw; (try dsimp only at hSw); go_simp <;> with_reducible rfl)
          (try simp only [Act.put, List.setIfInBounds_toArray, List.set_cons_zero, List.set_cons_succ])
          refine wpAnyH_take (i := 3) (v := ?vx62) (by exact op_at rfl) (by kernel_rfl) (by kernel_rfl) (by kernel_rfl) (by exact fun _ _ _ h => h) (Or.inl ⟨by rfl, ?hyx62⟩) hH ?restx62
          case hyx62 => (intro w' hSw; (try dsimp only at hSw); go_simp <;> with_reducible rfl)
          (try simp only [Act.put, List.setIfInBounds_toArray, List.set_cons_zero, List.set_cons_succ])
          refine wpAnyH_take (i := 4) (v := ?vx63) (by exact op_at rfl) (by kernel_rfl) (by kernel_rfl) (by kernel_rfl) (by exact fun _ _ _ h => h) (Or.inl ⟨by rfl, ?hyx63⟩) hH ?restx63
          case hyx63 => (intro w' hSw; (try dsimp only at hSw); go_simp <;> with_reducible rfl)
          (try simp only [Act.put, List.setIfInBounds_toArray, List.set_cons_zero, List.set_cons_succ])
          refine wpAnyH_take (i := 5) (v := ?vx64) (by exact op_at rfl) (by kernel_rfl) (by kernel_rfl) (by kernel_rfl) (by exact fun _ _ _ h => h) (Or.inl ⟨by rfl, ?hyx64⟩) hH ?restx64
          case hyx64 => (intro w' hSw; (try dsimp only at hSw); go_simp <;> with_reducible rfl)
          (try simp only [Act.put, List.setIfInBounds_toArray, List.set_cons_zero, List.set_cons_succ])
          refine wpAnyH_take (i := 6) (v := ?vx65) (by exact op_at rfl) (by kernel_rfl) (by kernel_rfl) (by kernel_rfl) (by exact fun _ _ _ h => h) (Or.inl ⟨by rfl, ?hyx65⟩) hH ?restx65
          case hyx65 => (intro w' hSw; (try dsimp only at hSw); go_simp <;> with_reducible rfl)
          (try simp only [Act.put, List.setIfInBounds_toArray, List.set_cons_zero, List.set_cons_succ])
          refine wpAnyH_take (i := 7) (v := ?vx66) (by exact op_at rfl) (by kernel_rfl) (by kernel_rfl) (by kernel_rfl) (by exact fun _ _ _ h => h) (Or.inl ⟨by rfl, ?hyx66⟩) hH ?restx66
          case hyx66 => (intro w' hSw; (try dsimp only at hSw); go_simp <;> with_reducible rfl)
          (try simp only [Act.put, List.setIfInBounds_toArray, List.set_cons_zero, List.set_cons_succ])
          refine wpAnyH_take (i := 8) (v := ?vx67) (by exact op_at rfl) (by kernel_rfl) (by kernel_rfl) (by kernel_rfl) (by exact fun _ _ _ h => h) (Or.inl ⟨by rfl, ?hyx67⟩) hH ?restx67
          case hyx67 => (intro w' hSw; (try dsimp only at hSw); go_simp <;> with_reducible rfl)
          (try simp only [Act.put, List.setIfInBounds_toArray, List.set_cons_zero, List.set_cons_succ])
          refine wpAnyH_ready (rs := [9]) (by kernel_rfl) (by simp) ?_
          refine AllReadyH.cons (op_at rfl) (fun K hK => ?_) AllReadyH.nil
          go_simp
          go_at_call 12
          (with_reducible refine (C8.out _ _ _ hc2 hm2' HDM.out (HT.out.oldn HK.out)).mono ?_)
          rintro e w' ⟨rfl, hb⟩
          replace HK := Lib.hid (HK.out.after hb)
          replace HD1 := Lib.hid (HD1.out.kept hb)
          clear hb
          go_simp
          refine hK.out _ _ ?hsx68 (fun hN => ?restx68)
          case hsx68 => (try dsimp only); with_reducible exact all3 HK.out ((HR.out.oldn HK.out).four HJ.out)
          clear hK K hH
          have hH := hN
          clear hN
          (try simp only [Act.put, List.setIfInBounds_toArray, List.set_cons_zero, List.set_cons_succ])
          refine wpAnyH_take (i := 10) (v := ?vx69) (by exact op_at rfl) (by kernel_rfl) (by kernel_rfl) (by kernel_rfl) (by exact fun _ _ _ h => h) (Or.inl ⟨by rfl, ?hyx69⟩) hH ?restx69
          case hyx69 => (intro w' hSw; (try dsimp only at hSw); go_simp <;> with_reducible rfl)
          (try simp only [Act.put, List.setIfInBounds_toArray, List.set_cons_zero, List.set_cons_succ])
          refine wpAnyH_take (i := 11) (v := ?vx70) (by exact op_at rfl) (by kernel_rfl) (by kernel_rfl) (by kernel_rfl) (by exact fun _ _ _ h => h) (Or.inl ⟨by rfl, ?hyx70⟩) hH ?restx70
          case hyx70 => (intro w' hSw; (try dsimp only at hSw); go_simp <;> with_reducible rfl)
          (try simp only [Act.put, List.setIfInBounds_toArray, List.set_cons_zero, List.set_cons_succ])
          refine wpAnyH_take (i := 12) (v := ?vx71) (by exact op_at rfl) (by kernel_rfl) (by kernel_rfl) (by kernel_rfl) (by exact fun _ _ _ h => h) (Or.inl ⟨by rfl, ?hyx71⟩) hH ?restx71
          case hyx71 => (intro w' hSw; (try dsimp only at hSw); go_simp <;> with_reducible rfl)
          (try simp only [Act.put, List.setIfInBounds_toArray, List.set_cons_zero, List.set_cons_succ])
          refine wpAnyH_take (i := 13) (v := ?vx72) (by exact op_at rfl) (by kernel_rfl) (by kernel_rfl) (by kernel_rfl) (by exact fun _ _ _ h => h) (Or.inl ⟨by rfl, ?hyx72⟩) hH ?restx72
          case hyx72 => (intro w' hSw; (try dsimp only at hSw); go_simp <;> with_reducible rfl)
          (try simp only [Act.put, List.setIfInBounds_toArray, List.set_cons_zero, List.set_cons_succ])
          refine wpAnyH_take (i := 14) (v := ?vx73) (by exact op_at rfl) (by kernel_rfl) (by kernel_rfl) (by kernel_rfl) (by exact fun _ _ _ h => h) (Or.inl ⟨by rfl, ?hyx73⟩) hH ?restx73
          case hyx73 => (intro w' hSw; (try dsimp only at hSw); go_simp <;> with_reducible rfl)
          (try simp only [Act.put, List.setIfInBounds_toArray, List.set_cons_zero, List.set_cons_succ])
          refine wpAnyH_take (i := 15) (v := undef) (by exact op_at rfl) (by kernel_rfl) (by kernel_rfl) (by kernel_rfl) (by exact fun _ _ _ h => h) (Or.inr ⟨by rfl, rfl⟩) hH ?restx74
          (try simp only [Act.put, List.setIfInBounds_toArray, List.set_cons_zero, List.set_cons_succ])
          refine wpAnyH_take (i := 16) (v := undef) (by exact op_at rfl) (by kernel_rfl) (by kernel_rfl) (by kernel_rfl) (by exact fun _ _ _ h => h) (Or.inr ⟨by rfl, rfl⟩) hH ?restx75
          (try simp only [Act.put, List.setIfInBounds_toArray, List.set_cons_zero, List.set_cons_succ])
          refine wpAnyH_take (i := 17) (v := undef) (by exact op_at rfl) (by kernel_rfl) (by kernel_rfl) (by kernel_rfl) (by exact fun _ _ _ h => h) (Or.inr ⟨by rfl, rfl⟩) hH ?restx76
          (try simp only [Act.put, List.setIfInBounds_toArray, List.set_cons_zero, List.set_cons_succ])
          refine wpAnyH_take (i := 18) (v := undef) (by exact op_at rfl) (by kernel_rfl) (by kernel_rfl) (by kernel_rfl) (by exact fun _ _ _ h => h) (Or.inr ⟨by rfl, rfl⟩) hH ?restx77
          (try simp only [Act.put, List.setIfInBounds_toArray, List.set_cons_zero, List.set_cons_succ])
          refine wpAnyH_take (i := 19) (v := undef) (by exact op_at rfl) (by kernel_rfl) (by kernel_rfl) (by kernel_rfl) (by exact fun _ _ _ h => h) (Or.inr ⟨by rfl, rfl⟩) hH ?restx78
          (try simp only [Act.put, List.setIfInBounds_toArray, List.set_cons_zero, List.set_cons_succ])
          refine wpAnyH_take (i := 20) (v := undef) (by exact op_at rfl) (by kernel_rfl) (by kernel_rfl) (by kernel_rfl) (by exact fun _ _ _ h => h) (Or.inr ⟨by rfl, rfl⟩) hH ?restx79
          (try simp only [Act.put, List.setIfInBounds_toArray, List.set_cons_zero, List.set_cons_succ])
          refine wpAnyH_take (i := 21) (v := undef) (by exact op_at rfl) (by kernel_rfl) (by kernel_rfl) (by kernel_rfl) (by exact fun _ _ _ h => h) (Or.inr ⟨by rfl, rfl⟩) hH ?restx80
          (try simp only [Act.put, List.setIfInBounds_toArray, List.set_cons_zero, List.set_cons_succ])
          refine wpAnyH_take (i := 22) (v := undef) (by exact op_at rfl) (by kernel_rfl) (by kernel_rfl) (by kernel_rfl) (by exact fun _ _ _ h => h) (Or.inr ⟨by rfl, rfl⟩) hH ?restx81
          (try simp only [Act.put, List.setIfInBounds_toArray, List.set_cons_zero, List.set_cons_succ])
          refine wpAnyH_take (i := 23) (v := undef) (by exact op_at rfl) (by kernel_rfl) (by kernel_rfl) (by kernel_rfl) (by exact fun _ _ _ h => h) (Or.inr ⟨by rfl, rfl⟩) hH ?restx82
          (try simp only [Act.put, List.setIfInBounds_toArray, List.set_cons_zero, List.set_cons_succ])
          refine wpAnyH_take (i := 24) (v := undef) (by exact op_at rfl) (by kernel_rfl) (by kernel_rfl) (by kernel_rfl) (by exact fun _ _ _ h => h) (Or.inr ⟨by rfl, rfl⟩) hH ?restx83
          (try simp only [Act.put, List.setIfInBounds_toArray, List.set_cons_zero, List.set_cons_succ])
          refine wpAnyH_take (i := 25) (v := undef) (by exact op_at rfl) (by kernel_rfl) (by kernel_rfl) (by kernel_rfl) (by exact fun _ _ _ h => h) (Or.inr ⟨by rfl, rfl⟩) hH ?restx84
          (try simp only [Act.put, List.setIfInBounds_toArray, List.set_cons_zero, List.set_cons_succ])
          refine wpAnyH_take (i := 26) (v := undef) (by exact op_at rfl) (by kernel_rfl) (by kernel_rfl) (by kernel_rfl) (by exact fun _ _ _ h => h) (Or.inr ⟨by rfl, rfl⟩) hH ?restx85
          (try simp only [Act.put, List.setIfInBounds_toArray, List.set_cons_zero, List.set_cons_succ])
          refine wpAnyH_take (i := 27) (v := undef) (by exact op_at rfl) (by kernel_rfl) (by kernel_rfl) (by kernel_rfl) (by exact fun _ _ _ h => h) (Or.inr ⟨by rfl, rfl⟩) hH ?restx86
          (try simp only [Act.put, List.setIfInBounds_toArray, List.set_cons_zero, List.set_cons_succ])
          refine wpAnyH_take (i := 28) (v := undef) (by exact op_at rfl) (by kernel_rfl) (by kernel_rfl) (by kernel_rfl) (by exact fun _ _ _ h => h) (Or.inr ⟨by rfl, rfl⟩) hH ?restx87
          (try simp only [Act.put, List.setIfInBounds_toArray, List.set_cons_zero, List.set_cons_succ])
          refine wpAnyH_take (i := 29) (v := ?vx88) (by exact op_at rfl) (by kernel_rfl) (by kernel_rfl) (by kernel_rfl) (by exact fun _ _ _ h => h) (Or.inl ⟨by rfl, ?hyx88⟩) hH ?restx88
          case hyx88 => (intro w' hSw; (try dsimp only at hSw); go_simp <;> with_reducible rfl)
          (try simp only [Act.put, List.setIfInBounds_toArray, List.set_cons_zero, List.set_cons_succ])
          refine wpAnyH_take (i := 30) (v := ?vx89) (by exact op_at rfl) (by kernel_rfl) (by kernel_rfl) (by kernel_rfl) (by exact fun _ _ _ h => h) (Or.inl ⟨by rfl, ?hyx89⟩) hH ?restx89
          case hyx89 => (intro w' hSw; (try dsimp only at hSw); go_simp <;> with_reducible rfl)
          (try simp only [Act.put, List.setIfInBounds_toArray, List.set_cons_zero, List.set_cons_succ])
          refine wpAnyH_done (by kernel_rfl) ?_ _
          go_wp2_with fail
          go_meet
          exact ⟨rfl, HK, HD1⟩
        · obtain ⟨b1, o1, rfl, hr1⟩ := HD1.out.2 (fun e => hq0 (by have := HQ.out; rw [e] at this; simpa using this.symm))
          have C9' := Lib.hid (C9.out hq0)
          have l0 : (0 : Int) < (q : Int) := by omega
          have l5 : decide ((0 : Int) < (q : Int)) = true := by rw [decide_eq_true_iff]; omega
          have l6 : decide (0 < q) = true := by rw [decide_eq_true_iff]; omega
          have l7 : 0 < q := by omega
          have l8 : (1 : Int) ≤ (q : Int) := by omega
          have l9 : (q : Int) ≤ (k1 : Int) + 1 := by omega
          have l10 : 1 ≤ q := by omega
          have l11 : q ≤ k1 + 1 := by omega
          have l1 : (0 : Int) ≤ (q : Int) - 1 := by omega
          have l2 : IntKind.i64.wrap ((q : Int) - 1) = (q : Int) - 1 := by rw [IntKind.wrap_i64]; omega
          have l3 : ((q : Int) - 1).toNat = q - 1 := by omega
          have l4 : (q : Int) - 1 ≤ (k1 : Int) := by omega
          clear hr1
          go_region_held3 (fun W => W.cell? ⟨w.heap.size, 0, none⟩ = some (.int .u32 f0) ∧ W.cell? ⟨w.heap.size, 1, none⟩ = some (.int .u32 f1) ∧ W.cell? ⟨w.heap.size, 2, none⟩ = some (.int .u32 f2) ∧ W.cell? ⟨w.heap.size, 3, none⟩ = some (.int .u32 f3) ∧ W.cell? ⟨w2.heap.size, 0, none⟩ = some (.int .u32 r0) ∧ W.cell? ⟨w2.heap.size, 1, none⟩ = some (.int .u32 r1) ∧ W.cell? ⟨w2.heap.size, 2, none⟩ = some (.int .u32 r2) ∧ W.cell? ⟨w2.heap.size, 3, none⟩ = some (.int .u32 r3) ∧ W.cell? ⟨b, off + i * 4, none⟩ = some (.int .u32 x0) ∧ W.cell? ⟨b, off + i * 4 + 1, none⟩ = some (.int .u32 x1) ∧ W.cell? ⟨b, off + i * 4 + 2, none⟩ = some (.int .u32 x2) ∧ W.cell? ⟨b, off + i * 4 + 3, none⟩ = some (.int .u32 x3))
            (with_reducible exact all3 HK.out ((HR.out.oldn HK.out).four HJ.out))
            (first
              | (go_at_call 12; with_reducible refine (C8.out _ _ _ hc2 hm2' HDM.out (HT.out.oldn HK.out)).mono ?_; rintro e w' ⟨rfl, hb⟩; replace HK := Lib.hid (HK.out.after hb); replace HD1 := Lib.hid (HD1.out.kept hb); clear hb)
              | (go_at_call 12; with_reducible refine (C9'.out _ _ _ HLK.out hk2' HD1.out.dropLast (HT.out.oldn HK.out)).mono ?_; rintro e w' ⟨rfl, hb⟩; replace HK := Lib.hid (HK.out.after hb); replace HD1 := Lib.hid (HD1.out.kept hb); clear hb))
          all_goals
            go_wp2_with fail
            go_meet
            exact ⟨rfl, HK, HD1⟩
      case rest =>
        obtain ⟨rfl, HK, HD1⟩ := hcut
        replace HK := Lib.hid HK.out.drew
        go_wp2_with fail
        go_region_held3 (fun W => W.cell? ⟨w.heap.size, 0, none⟩ = some (.int .u32 f0) ∧ W.cell? ⟨w.heap.size, 1, none⟩ = some (.int .u32 f1) ∧ W.cell? ⟨w.heap.size, 2, none⟩ = some (.int .u32 f2) ∧ W.cell? ⟨w.heap.size, 3, none⟩ = some (.int .u32 f3) ∧ W.cell? ⟨w2.heap.size, 0, none⟩ = some (.int .u32 r0) ∧ W.cell? ⟨w2.heap.size, 1, none⟩ = some (.int .u32 r1) ∧ W.cell? ⟨w2.heap.size, 2, none⟩ = some (.int .u32 r2) ∧ W.cell? ⟨w2.heap.size, 3, none⟩ = some (.int .u32 r3) ∧ W.cell? ⟨b, off + i * 4, none⟩ = some (.int .u32 x0) ∧ W.cell? ⟨b, off + i * 4 + 1, none⟩ = some (.int .u32 x1) ∧ W.cell? ⟨b, off + i * 4 + 2, none⟩ = some (.int .u32 x2) ∧ W.cell? ⟨b, off + i * 4 + 3, none⟩ = some (.int .u32 x3))
          (with_reducible exact all3 HK.out ((HR.out.oldn HK.out).four HJ.out))
          (first
            | (go_at_call 12; with_reducible refine (C10.out _ _ _ _).mono ?_; rintro e w' ⟨rfl, hb⟩; replace HK := Lib.hid (HK.out.after hb); clear hb)
            | (go_at_call 12; with_reducible refine (C11.out _ _ _ _).mono ?_; rintro e w' ⟨rfl, hb⟩; replace HK := Lib.hid (HK.out.after hb); clear hb))
        all_goals
          go_wp2_with fail
          go_ret
          exact ⟨rfl, HK.out.be.plain⟩
theorem walk {A : Option Addr} {n cap : Nat} {l : Dl} {f0 f1 f2 f3 : Int} (i : Int) (w0 : (Lit.int .i64 i).wf = true) (oF : Ok4 [f0, f1, f2, f3]) (hl : l.length = n) (hc : n ≤ cap) (hm : cap ≤ maxLen) (w : World) (hd : Dd w A l) (ht : Tabs w) :
    Calls Tryd.prog 4 #[.slice A n cap, .int .i64 i, .agg #[.int .u32 f0, .int .u32 f1, .int .u32 f2, .int .u32 f3]] w fun e w' => e = .returned (.bool true) ∧ Below w.heap.size w w' := by
  unfold maxLen at hm
  by_cases h : 30 < n ∨ i < 0 ∨ (n : Int) ≤ i
  · exact walk_long w ht (by omega) h
  · obtain ⟨j, rfl⟩ := Int.eq_ofNat_of_zero_le (show 0 ≤ i by omega)
    exact walk_yes oF w ht hl (by omega) hc (by omega) hd (by omega)

set_option maxRecDepth 100000 in
theorem contract (H : Type) (enc : TypeId × Value → H) (W : World) (base : Nat) (args : Array Value) (ds gs : List (DataW H)) (before : List MemPlace)
    (hval : ∀ (j : Nat) t v, Tryd.f4.params[j]? = some t → args[j]? = some v → Value.okWide Tryd.prog W .any base t v)
    (hW : DataW.Whole enc Tryd.prog Tryd.f4.params.toList Rows.merkleOtherSpec.vars false W args.toList ds gs before) (hL : laidMetH Tryd.prog Rows.merkleOtherRow.laid W) :
    Calls Tryd.prog 4 args W fun e W' => ∃ v, e = .returned v ∧ Rows.merkleOtherSpec.post enc Tryd.prog Tryd.f4 false true false false W args v W' := by
  have hW' := hW
  obtain ⟨p, q, hA0, hV, rfl, hfz, hnd⟩ := hW
  have hA : DataW.TrodAll enc Tryd.prog W 0 (fun _ => true) true Tryd.f4.params.toList args.toList ds p := hA0
  rw [Tryd.params4] at hA hval
  obtain ⟨v0, vs0, d0, ds0, p0, q0, hargs, rfl, rfl, h0, r0⟩ := trodAll_cons hA
  obtain ⟨v1, vs1, d1, ds1, p1, q1, rfl, rfl, rfl, h1, r1⟩ := trodAll_cons r0
  obtain ⟨v2, vs2, d2, ds2, p2, q2, rfl, rfl, rfl, h2, r2⟩ := trodAll_cons r1
  obtain ⟨rfl, rfl, rfl⟩ := trodAll_nil r2
  obtain rfl : args = #[v0, v1, v2] := by cases args; simp_all
  obtain ⟨rfl, rfl⟩ := trodVars_none hV
  have lt0 : ∀ x ∈ p0, x.block < W.heap.size := by obtain ⟨m, hm⟩ := h0; exact DataW.trod_lt m _ _ _ hm
  obtain ⟨A0, n0, c0, l0, rfl, hl0, hc0, hm0, hd0⟩ := open_sl (hval 0 22 v0 rfl rfl) h0
  have lt1 : ∀ x ∈ p1, x.block < W.heap.size := by obtain ⟨m, hm⟩ := h1; exact DataW.trod_lt m _ _ _ hm
  have k1 := h1
  obtain ⟨a1, rfl, _, _, w1⟩ := open_int Tryd.underlying3 (hval 1 3 v1 rfl rfl) k1
  have lt2 : ∀ x ∈ p2, x.block < W.heap.size := by obtain ⟨m, hm⟩ := h2; exact DataW.trod_lt m _ _ _ hm
  obtain ⟨x20, x21, x22, x23, rfl, o2⟩ := open_dig (hval 2 26 v2 rfl rfl) h2
  clear hA0
  refine (walk (A := A0) (n := n0) (cap := c0) (l := l0) a1 w1 o2 hl0 hc0 hm0 W hd0 (tabs_of hL)).mono fun e W' ⟨he, bel⟩ => ?_
  subst he
  exact ⟨_, rfl, _, _, _, [], _, [], hW', trodAll_mk1 (shut_bool Tryd.underlying4 _), (trodAll_cons_mk (Below.trod laidOut (by kernel_rfl) (of_decide_eq_true (by kernel_rfl)) h0 bel lt0) (trodAll_cons_mk (Below.trod laidOut (by kernel_rfl) (of_decide_eq_true (by kernel_rfl)) h1 bel lt1) (trodAll_cons_mk (Below.trod laidOut (by kernel_rfl) (of_decide_eq_true (by kernel_rfl)) h2 bel lt2) trodAll_mk0))), rfl, bel.frame _, fun h => by cases h⟩

theorem laid_met (os : Os) : laidMet Tryd.prog Rows.merkleOtherRow.laid ((laidWorld os).forCall (fun _ _ => 0) ⟨#[], #[.slice none 0 0, .int .i64 0, .agg #[.int .u32 0, .int .u32 0, .int .u32 0, .int .u32 0]], []⟩).memory :=
  laidMet_of_run' 8 (by kernel_rfl) (by kernel_rfl)
theorem reads (os : Os) {H : Type} (enc : TypeId × Value → H) : ∃ places, DataW.whole enc Tryd.prog ((laidWorld os).forCall (fun _ _ => 0) ⟨#[], #[.slice none 0 0, .int .i64 0, .agg #[.int .u32 0, .int .u32 0, .int .u32 0, .int .u32 0]], []⟩).memory Tryd.f4.params.toList Rows.merkleOtherSpec.vars false (#[.slice none 0 0, .int .i64 0, .agg #[.int .u32 0, .int .u32 0, .int .u32 0, .int .u32 0]] : Array Value).toList 8 = some ([.nil, .lit (.int .i64 0), .agg [.lit (.int .u32 0), .lit (.int .u32 0), .lit (.int .u32 0), .lit (.int .u32 0)]], [], places) :=
  ⟨[], by kernel_rfl⟩

set_option maxRecDepth 100000 in
theorem lifted (os : Os) (started : os.Started) (H : Type) (enc : TypeId × Value → H) (F : Stop.Interp) :
    ReturnsInHanded {} Tryd.checked os 4 .any ((OpenSpec.ofChange Rows.merkleOtherSpec).preRow enc Tryd.prog Tryd.f4 Rows.merkleOtherRow.domain false Rows.merkleOtherRow.laid) (((OpenSpec.ofChange Rows.merkleOtherSpec).at F).post enc Tryd.prog Tryd.f4 false true false false) := by
  obtain ⟨places, hx⟩ := reads os enc
  refine returnsInHanded_of_row (C := Tryd.checked) (s := OpenSpec.ofChange Rows.merkleOtherSpec) own started (by kernel_rfl) Tryd.func4
    (witness_row_at (enc := enc) (C := Tryd.checked) false (laidWorld os) #[.slice none 0 0, .int .i64 0, .agg #[.int .u32 0, .int .u32 0, .int .u32 0, .int .u32 0]] rfl (by kernel_rfl) (by kernel_rfl) (by kernel_rfl)
      (OpenSpec.preRow_of_cond 8 hx (by kernel_rfl) (fun k hk => by cases hk) (by kernel_rfl) (laid_met os))) ?_
  intro W base args ds gs before hval hW _ _ _ hL _ _
  exact contract H enc W base args ds gs before hval hW hL

theorem said : Rows.MerkleOtherSaid :=
  OpenClaim.holds_of_cond 4 Tryd.f4 rfl rfl rfl rfl rfl rfl rfl ⟨rfl, rfl, rfl, rfl, rfl⟩ rfl rfl rfl rfl rfl (by kernel_rfl) Tryd.func4 (by kernel_rfl)
    (of_decide_eq_true (by kernel_rfl)) (by unfold Func.isWrapper; first | (rw [if_pos (by decide +kernel)]; kernel_rfl) | (rw [if_neg (by decide +kernel)]; exact ⟨rfl, rfl⟩))
    (fun os started H enc _ F => by rw [OpenClaim.pre_eq_preRow]; exact lifted os started H enc F)

theorem plain (f : FuncId) (fn : Func) (hf : Tryd.pinned.checked.prog.funcNamed "seedcorn/seedcornlaw04.MerkleOther" = some f) (hfn : Tryd.pinned.checked.prog.funcs[f]? = some fn) :
    false = Tryd.pinned.checked.prog.looks [] ∧ ∀ (j : Nat) t, fn.params[j]? = some t → Tryd.pinned.checked.prog.wantsStandIn t = false := by
  obtain rfl : f = 4 := Option.some.inj ((show Tryd.prog.funcNamed "seedcorn/seedcornlaw04.MerkleOther" = some 4 by kernel_rfl).symm.trans hf) |>.symm
  obtain rfl : fn = Tryd.f4 := (Option.some.inj (Tryd.func4.symm.trans hfn)).symm
  refine ⟨by kernel_rfl, fun j t ht => ?_⟩
  rw [Tryd.params4] at ht
  have hm := Array.mem_of_getElem? ht
  have hm' : t = 22 ∨ t = 3 ∨ t = 26 := by simpa using hm
  rcases hm' with rfl | rfl | rfl
  · exact (show Tryd.prog.wantsStandIn 22 = false by kernel_rfl)
  · exact (show Tryd.prog.wantsStandIn 3 = false by kernel_rfl)
  · exact (show Tryd.prog.wantsStandIn 26 = false by kernel_rfl)

/-- The card. -/
theorem card : Rows.MerkleOtherCardSaid :=
  Claim7.holds_tied_plain_at .later [] _ _ _ _ said (fun _ h => by cases h) (by kernel_rfl) (fun _ h => by cases h) merkleOther_row_tie rfl ⟨rfl, rfl⟩ (by kernel_rfl) rfl plain (by kernel_rfl)
end Go.Proofs.YtcjclbhkheogpaaDoor.merkleOther
