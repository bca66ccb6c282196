/- The law KeysRow: for every seed, height 0 or 1, and list of messages it returns true, and all read as before. The tables that it reads hold what the program's text lays (the card ties them). No other condition. -/
import Derived.Test.YtfbefenagnlnfaaDoorKeyT
import Derived.Test.YtfbefenagnlnfaaDoorKeyW
import Derived.Deep.DeepCutAuto
namespace Go.Proofs.YtfbefenagnlnfaaDoor.keysRow
open Go.ChangeShapes Go.WideShapes Go.ChangeAt Go.RowKit
set_option linter.unusedVariables false

set_option maxRecDepth 100000 in
set_option maxHeartbeats 4000000 in
theorem walk_long {x0 x1 x2 x3 : Int} {hb0 : Bool} {A : Option Addr} {n cap : Nat} {l : Dl} (o0 : Ok4 [x0, x1, x2, x3]) (hl : l.length = n) (hc : n ≤ cap) (h4 : 4 < n) (w : World) (hd : Dd w A l) (ht : Tabs w) :
    Calls Tryd.prog 7 #[ag [x0, x1, x2, x3], .bool hb0, .slice A n cap] w fun e w' => e = .returned (.bool true) ∧ Below w.heap.size w w' := by
  have CA := Lib.hid (fun w ht => awake6 w ht)
  have i0 : (4 : Int) < (n : Int) := by omega
  rw [ag4]
  have HT := Lib.hid ht
  have HK := Lib.hid ((Kx.nil none w).more (.cells #[.int .u32 x0, .int .u32 x1, .int .u32 x2, .int .u32 x3] 24 (0, 0)))
  clear ht hd hl hc h4
  go_enter Tryd.func7, Tryd.ntmps7
  go_wp2_with fail
  refine (CA.out _ (HT.out.oldn HK.out)).mono ?_
  rintro e w1 ⟨rfl, hb⟩
  replace HK := Lib.hid (HK.out.after hb)
  clear hb
  go_wp2_with fail
  go_ret
  exact ⟨rfl, HK.out.be.plain⟩
/-- What Use gives for the message j. -/
abbrev UseJ (x0 x1 x2 x3 y0 y1 y2 y3 hI : Int) (s : Nat) (t0 t1 t2 t3 th tn idx er : Int) (one path : Dl) : Prop :=
  ∀ W : World, Tabs W → Calls Tryd.prog 19 #[.agg #[.int .u32 x0, .int .u32 x1, .int .u32 x2, .int .u32 x3, .int .i64 hI, .int .i64 (s : Int)], .agg #[.int .u32 y0, .int .u32 y1, .int .u32 y2, .int .u32 y3]] W fun e w' => ∃ A n c B m d, e = .returned (.tuple #[.agg #[.int .u32 t0, .int .u32 t1, .int .u32 t2, .int .u32 t3, .int .i64 th, .int .i64 tn], .agg #[.int .i64 idx, .slice A n c, .slice B m d], .int .i64 er]) ∧ SgX w' W.heap.size (.agg #[.int .i64 idx, .slice A n c, .slice B m d]) idx one path ∧ Below W.heap.size W w'
theorem use_good {x0 x1 x2 x3 y0 y1 y2 y3 hI : Int} {h s : Nat} (eh : hI = (h : Int)) (o0 : Ok4 [x0, x1, x2, x3]) (o1 : Ok4 [y0, y1, y2, y3]) (hh : h ≤ 4) (hs : s < 2 ^ h) : UseJ x0 x1 x2 x3 y0 y1 y2 y3 hI s x0 x1 x2 x3 hI ((s : Int) + 1) (s : Int) 0 (sgn (ksd [x0, x1, x2, x3] s) [y0, y1, y2, y3]) (mway (kys [x0, x1, x2, x3] h) s) := by
  subst eh
  intro W ht
  refine (use6_yes W o0 o1 hh hs ht).mono ?_
  rintro e w' ⟨v, rfl, hx, hb⟩
  have hx2 := hx
  obtain ⟨A, n, c, B, m, d, rfl, _, _⟩ := hx
  exact ⟨A, n, c, B, m, d, rfl, hx2, hb⟩
theorem use_used {x0 x1 x2 x3 y0 y1 y2 y3 hI : Int} {h s : Nat} (eh : hI = (h : Int)) (o0 : Ok4 [x0, x1, x2, x3]) (o1 : Ok4 [y0, y1, y2, y3]) (hh : h ≤ 4) (hs : 2 ^ h ≤ s) : UseJ x0 x1 x2 x3 y0 y1 y2 y3 hI s 0 0 0 0 0 0 0 9 [] [] := by
  subst eh
  intro W ht
  refine (use6_used W o0 o1 hh (.inr (by omega)) ht).mono ?_
  rintro e w' ⟨rfl, hb⟩
  exact ⟨none, 0, 0, none, 0, 0, rfl, SgX.zero _ _, hb⟩
set_option maxRecDepth 100000 in
set_option maxHeartbeats 4000000 in
theorem walk_low {x0 x1 x2 x3 : Int} {A : Option Addr} {n cap : Nat} {l : Dl} (o0 : Ok4 [x0, x1, x2, x3]) (hl : l.length = n) (hc : n ≤ cap) (h4 : n ≤ 4) (w : World) (hd : Dd w A l) (ht : Tabs w) :
    Calls Tryd.prog 7 #[ag [x0, x1, x2, x3], .bool false, .slice A n cap] w fun e w' => e = .returned (.bool true) ∧ Below w.heap.size w w' := by
  have CA := Lib.hid (fun w ht => awake6 w ht)
  have c1 := fun w => new6_yes 0 w o0 (by omega) (by omega)
  have c2 := fun w ht => public6_yes _ 0 w o0 (by omega) ht
  have op := kpub_ok o0 0
  obtain ⟨p0, p1, p2, p3, ep, _⟩ := ok4 op
  rw [ep, ag4, ag4, show ((0 : Nat) : Int) = 0 from rfl] at c2
  have EP := Lib.hid ep
  have OP := Lib.hid op
  have O0 := Lib.hid o0
  have HL := Lib.hid hl
  have HD0 := Lib.hid hd
  have C1 := Lib.hid c1
  have C2 := Lib.hid c2
  have i0 : ¬ (4 : Int) < (n : Int) := by omega
  have qs := eqSg
  rw [ag4]
  have HT := Lib.hid ht
  have HK := Lib.hid ((Kx.nil none w).more (.cells #[.int .u32 x0, .int .u32 x1, .int .u32 x2, .int .u32 x3] 24 (0, 0)))
  clear ht hd hl c1 c2 ep op
  go_enter Tryd.func7, Tryd.ntmps7
  go_wp2_with fail
  refine (CA.out _ (HT.out.oldn HK.out)).mono ?_
  rintro e w1 ⟨rfl, hb⟩
  replace HK := Lib.hid (HK.out.after hb)
  clear hb
  obtain ⟨a0, a1, a2, a3, _⟩ := cells4 (HK.out.at 0 rfl)
  go_wp2_with fail
  refine (C1.out _).mono ?_
  rintro e w2 ⟨rfl, hb⟩
  have HW2 := Lib.hid ((HK.out.after hb).lt 0 rfl)
  replace HK := Lib.hid ((HK.out.after hb).more (.cells #[.int .u32 x0, .int .u32 x1, .int .u32 x2, .int .u32 x3, .int .i64 0, .int .i64 0] 30 (0, 0)))
  clear hb a0 a1 a2 a3
  obtain ⟨a0, a1, a2, a3, _⟩ := cells4 (HK.out.at 0 rfl)
  go_wp2_with fail
  obtain ⟨q9, hq9⟩ : ∃ q, w2.heap.size = q := ⟨_, rfl⟩
  have HQ9L : Hid (w.heap.size < q9) := Lib.hid (by rw [← hq9]; exact HW2.out)
  rw [hq9] at HK ⊢
  refine (C2.out _ (HT.out.oldn HK.out)).mono ?_
  rintro e w3 ⟨rfl, hb⟩
  replace HK := Lib.hid ((HK.out.after hb).more (.cells #[.int .u32 p0, .int .u32 p1, .int .u32 p2, .int .u32 p3] 24 (0, 0)))
  clear hb a0 a1 a2 a3
  go_wp2_with fail
  obtain ⟨q11, hq11⟩ : ∃ q, w3.heap.size = q := ⟨_, rfl⟩
  rw [hq11] at HK ⊢
  obtain ⟨W4, hW4⟩ : ∃ W, w3.alloc (.cells #[.int .u32 p0, .int .u32 p1, .int .u32 p2, .int .u32 p3] 24) = W := ⟨_, rfl⟩
  rw [hW4] at HK ⊢
  clear hW4 hq11 hq9
  go_loopw [13] (fun v wr => ∃ (j s : Nat), j ≤ n ∧ v = .int .i64 (j : Int) ∧ (j < 1 → s = j) ∧ (1 ≤ j → s = 1) ∧ Hid (Kx none w wr [(w.heap.size, .cells #[.int .u32 x0, .int .u32 x1, .int .u32 x2, .int .u32 x3] 24 (0, 0)), (q9, .cells #[.int .u32 x0, .int .u32 x1, .int .u32 x2, .int .u32 x3, .int .i64 0, .int .i64 (s : Int)] 30 (0, 0)), (q11, .cells #[.int .u32 p0, .int .u32 p1, .int .u32 p2, .int .u32 p3] 24 (0, 0))])) (fun v _ => n - (intOf v).toNat)
  case atStart => exact ⟨0, 0, Nat.zero_le _, rfl, fun _ => rfl, fun h => by omega, HK⟩
  case round =>
    clear HK
    obtain ⟨j, s, hj, rfl, hs1, hs2, HK⟩ := hrel
    by_cases hlt : j < n
    · have hne : l ≠ [] := by intro e; have := HL.out; rw [e] at this; simp at this; omega
      obtain ⟨bl, ol, rfl, rp⟩ := HD0.out.2 hne
      obtain ⟨y0, y1, y2, y3, ey, oy⟩ := rp.get (j := j) (by rw [HL.out]; exact hlt)
      have EY := Lib.hid ey
      have OY := Lib.hid oy
      have RP := Lib.hid rp
      have j0 : (0 : Int) ≤ (j : Int) := by omega
      have j1 : (j : Int) < (n : Int) := by omega
      clear ey oy rp hne
      obtain ⟨t0, t1, t2, t3, th, tn, idx, er, one, path, HU, HC⟩ : ∃ (t0 t1 t2 t3 th tn idx er : Int) (one path : Dl), Hid (UseJ x0 x1 x2 x3 y0 y1 y2 y3 0 s t0 t1 t2 t3 th tn idx er one path) ∧
          ((j < 1 ∧ er = 0 ∧ idx = (j : Int) ∧ x0 = t0 ∧ x1 = t1 ∧ x2 = t2 ∧ x3 = t3 ∧ th = 0 ∧ tn = (j : Int) + 1 ∧ one = sgn (ksd [x0, x1, x2, x3] j) [y0, y1, y2, y3] ∧ path = mway (kys [x0, x1, x2, x3] 0) j) ∨ (1 ≤ j ∧ er = 9 ∧ t0 = 0 ∧ t1 = 0 ∧ t2 = 0 ∧ t3 = 0 ∧ th = 0 ∧ tn = 0)) := by
        by_cases hm : j < 1
        · obtain rfl := hs1 hm
          exact ⟨_, _, _, _, _, _, _, _, _, _, Lib.hid (use_good (h := 0) rfl O0.out OY.out (by omega) (by omega)), .inl ⟨hm, rfl, rfl, rfl, rfl, rfl, rfl, rfl, rfl, rfl, rfl⟩⟩
        · exact ⟨_, _, _, _, _, _, _, _, [], [], Lib.hid (use_used (h := 0) rfl O0.out OY.out (by omega) (by have := hs2 (by omega); omega)), .inr ⟨by omega, rfl, rfl, rfl, rfl, rfl, rfl, rfl⟩⟩
      obtain ⟨f0, f1, f2, f3⟩ := (RP.out.oldn HK.out).four EY.out
      obtain ⟨a0, a1, a2, a3, a4, a5, b0, b1, b2, b3, b4, b5⟩ := cells6 (HK.out.at 1 rfl)
      have HCC := Lib.hid HC
      clear HC
      go_upto_region 17 with fail
      go_cut [14, 15, 16] (fun s14 s15 s16 wx => ∃ (g1 g2 : Nat) (A1 B1 : Option Addr) (n1 c1 m1 d1 : Nat), s14 = .pointer (some ⟨g1, 0, none⟩) ∧ s15 = .pointer (some ⟨g2, 0, none⟩) ∧ s16 = .int .i64 er ∧ Hid (Kx none w wx [(w.heap.size, .cells #[.int .u32 x0, .int .u32 x1, .int .u32 x2, .int .u32 x3] 24 (0, 0)), (q9, .cells #[.int .u32 x0, .int .u32 x1, .int .u32 x2, .int .u32 x3, .int .i64 0, .int .i64 (s : Int)] 30 (0, 0)), (q11, .cells #[.int .u32 p0, .int .u32 p1, .int .u32 p2, .int .u32 p3] 24 (0, 0)), (g1, .cells #[.int .u32 t0, .int .u32 t1, .int .u32 t2, .int .u32 t3, .int .i64 th, .int .i64 tn] 30 (0, 0)), (g2, .cells #[.int .i64 idx, .slice A1 n1 c1, .slice B1 m1 d1] 38 (0, 0))]) ∧ Hid (SgV wx (.agg #[.int .i64 idx, .slice A1 n1 c1, .slice B1 m1 d1]) idx one path))
      case first =>
        replace HK := Lib.hid HK.out.drew
        clear b0 b1 b2 b3 b4 b5
        refine wp_region_held_drew (S := fun W => W.cell? ⟨q9, 0, none⟩ = some (.int .u32 x0) ∧ W.cell? ⟨q9, 1, none⟩ = some (.int .u32 x1) ∧ W.cell? ⟨q9, 2, none⟩ = some (.int .u32 x2) ∧ W.cell? ⟨q9, 3, none⟩ = some (.int .u32 x3) ∧ W.cell? ⟨q9, 4, none⟩ = some (.int .i64 0) ∧ W.cell? ⟨q9, 5, none⟩ = some (.int .i64 (s : Int)) ∧ W.cell? ⟨bl, ol + j * 4, none⟩ = some (.int .u32 y0) ∧ W.cell? ⟨bl, ol + j * 4 + 1, none⟩ = some (.int .u32 y1) ∧ W.cell? ⟨bl, ol + j * 4 + 2, none⟩ = some (.int .u32 y2) ∧ W.cell? ⟨bl, ol + j * 4 + 3, none⟩ = some (.int .u32 y3)) (by kernel_rfl) ?hsx1 (fun hH => ?restx1)
        case hsx1 => ((try dsimp only); with_reducible exact allR HK.out RP.out EY.out HK.out.be.plain)
        obtain ⟨w0, hw0⟩ : ∃ W, wr.drew = W := ⟨_, rfl⟩
        rw [hw0] at HK hH ⊢
        clear hw0
        refine wpAnyH_take (i := 0) (v := ?vx2) (by exact op_at rfl) (by kernel_rfl) (by kernel_rfl) (by kernel_rfl) (by exact fun _ _ _ h => h) (Or.inl ⟨by rfl, ?hyx2⟩) hH ?restx2
        case hyx2 => (intro w' hSw; (try dsimp only at hSw); go_simp <;> with_reducible rfl)
        (try simp only [Act.put, List.setIfInBounds_toArray, List.set_cons_zero, List.set_cons_succ])
        refine wpAnyH_take (i := 1) (v := ?vx3) (by exact op_at rfl) (by kernel_rfl) (by kernel_rfl) (by kernel_rfl) (by exact fun _ _ _ h => h) (Or.inl ⟨by rfl, ?hyx3⟩) hH ?restx3
        case hyx3 => (intro w' hSw; (try dsimp only at hSw); go_simp <;> with_reducible rfl)
        (try simp only [Act.put, List.setIfInBounds_toArray, List.set_cons_zero, List.set_cons_succ])
        refine wpAnyH_take (i := 2) (v := ?vx4) (by exact op_at rfl) (by kernel_rfl) (by kernel_rfl) (by kernel_rfl) (by exact fun _ _ _ h => h) (Or.inl ⟨by rfl, ?hyx4⟩) hH ?restx4
        case hyx4 => (intro w' hSw; (try dsimp only at hSw); go_simp <;> with_reducible rfl)
        (try simp only [Act.put, List.setIfInBounds_toArray, List.set_cons_zero, List.set_cons_succ])
        refine wpAnyH_take (i := 3) (v := ?vx5) (by exact op_at rfl) (by kernel_rfl) (by kernel_rfl) (by kernel_rfl) (by exact fun _ _ _ h => h) (Or.inl ⟨by rfl, ?hyx5⟩) hH ?restx5
        case hyx5 => (intro w' hSw; (try dsimp only at hSw); go_simp <;> with_reducible rfl)
        (try simp only [Act.put, List.setIfInBounds_toArray, List.set_cons_zero, List.set_cons_succ])
        refine wpAnyH_take (i := 4) (v := ?vx6) (by exact op_at rfl) (by kernel_rfl) (by kernel_rfl) (by kernel_rfl) (by exact fun _ _ _ h => h) (Or.inl ⟨by rfl, ?hyx6⟩) hH ?restx6
        case hyx6 => (intro w' hSw; (try dsimp only at hSw); go_simp <;> with_reducible rfl)
        (try simp only [Act.put, List.setIfInBounds_toArray, List.set_cons_zero, List.set_cons_succ])
        refine wpAnyH_ready (rs := [5, 10, 11]) (by kernel_rfl) (by simp) ?_
        refine AllReadyH.cons (op_at rfl) (fun K hK => ?b_5) ?c_5
        case b_5 =>
          go_simp
          go_at_call 19
          (with_reducible refine (HU.out _ (HT.out.oldn HK.out)).mono ?_)
          rintro e wc ⟨A1, n1, c1, B1, m1, d1, rfl, hx, hb⟩
          have HX := Lib.hid hx
          have HM := Lib.hid (Md.new w0.heap.size wc)
          have HKc := Lib.hid (HK.out.after hb)
          clear hb hx
          go_simp
          refine hK.out _ _ ?hsx7 (fun hN => ?restx7)
          case hsx7 => ((try dsimp only); with_reducible exact allR HKc.out RP.out EY.out HKc.out.be.plain)
          clear hK K hH
          have hH := hN
          clear hN
          (try simp only [Act.put, List.setIfInBounds_toArray, List.set_cons_zero, List.set_cons_succ])
          refine wpAnyH_take (i := 6) (v := ?vx8) (by exact op_at rfl) (by kernel_rfl) (by kernel_rfl) (by kernel_rfl) (by exact fun _ _ _ h => h) (Or.inl ⟨by rfl, ?hyx8⟩) hH ?restx8
          case hyx8 => (intro w' hSw; (try dsimp only at hSw); go_simp <;> with_reducible rfl)
          (try simp only [Act.put, List.setIfInBounds_toArray, List.set_cons_zero, List.set_cons_succ])
          refine wpAnyH_take (i := 7) (v := ?vx9) (by exact op_at rfl) (by kernel_rfl) (by kernel_rfl) (by kernel_rfl) (by exact fun _ _ _ h => h) (Or.inl ⟨by rfl, ?hyx9⟩) hH ?restx9
          case hyx9 => (intro w' hSw; (try dsimp only at hSw); go_simp <;> with_reducible rfl)
          (try simp only [Act.put, List.setIfInBounds_toArray, List.set_cons_zero, List.set_cons_succ])
          refine wpAnyH_take (i := 8) (v := ?vx10) (by exact op_at rfl) (by kernel_rfl) (by kernel_rfl) (by kernel_rfl) (by exact fun _ _ _ h => h) (Or.inl ⟨by rfl, ?hyx10⟩) hH ?restx10
          case hyx10 => (intro w' hSw; (try dsimp only at hSw); go_simp <;> with_reducible rfl)
          (try simp only [Act.put, List.setIfInBounds_toArray, List.set_cons_zero, List.set_cons_succ])
          refine wpAnyH_take (i := 9) (v := ?vx11) (by exact op_at rfl) (by kernel_rfl) (by kernel_rfl) (by kernel_rfl) (by exact fun _ _ _ h => h) (Or.inl ⟨by rfl, ?hyx11⟩) hH ?restx11
          case hyx11 => (intro w' hSw; (try dsimp only at hSw); go_simp <;> with_reducible rfl)
          (try simp only [Act.put, List.setIfInBounds_toArray, List.set_cons_zero, List.set_cons_succ])
          refine wpAnyH_ready (rs := [10, 11]) (by kernel_rfl) (by simp) ?_
          refine AllReadyH.cons (op_at rfl) (fun K hK => ?bx5_10) ?cx5_10
          case bx5_10 =>
            go_simp
            obtain ⟨g1, hg1⟩ : ∃ g, wc.heap.size = g := ⟨_, rfl⟩
            have HG10 := Lib.hid (show w.heap.size ≤ g1 from by rw [← hg1]; exact HKc.out.be.size)
            have HKca10 := Lib.hid (HKc.out.add g1 hg1 (.cells #[.int .u32 0, .int .u32 0, .int .u32 0, .int .u32 0, .int .i64 0, .int .i64 0] 30 (0, 0)))
            have HL10 := Lib.hid (show g1 < w0.heap.size ∨ wc.heap.size ≤ g1 from .inr (by rw [← hg1]; exact HM.out.1))
            replace HM := Lib.hid (HM.out.alloc (.cells #[.int .u32 0, .int .u32 0, .int .u32 0, .int .u32 0, .int .i64 0, .int .i64 0] 30 (0, 0)))
            rw [hg1]
            obtain ⟨w10, hw10⟩ : ∃ W, wc.alloc (.cells #[.int .u32 0, .int .u32 0, .int .u32 0, .int .u32 0, .int .i64 0, .int .i64 0] 30 (0, 0)) = W := ⟨_, rfl⟩
            rw [hw10] at HKca10 HM ⊢
            clear hw10 hg1
            refine hK.out _ _ ?hsx12 (fun hN => ?restx12)
            case hsx12 => ((try dsimp only); with_reducible exact allR HKca10.out RP.out EY.out HKca10.out.be.plain)
            clear hK K hH
            have hH := hN
            clear hN
            (try simp only [Act.put, List.setIfInBounds_toArray, List.set_cons_zero, List.set_cons_succ])
            refine wpAnyH_ready (rs := [11]) (by kernel_rfl) (by simp) ?_
            refine AllReadyH.cons (op_at rfl) (fun K hK => ?bx5x10_11) ?cx5x10_11
            case bx5x10_11 =>
              go_simp
              obtain ⟨g2, hg2⟩ : ∃ g, w10.heap.size = g := ⟨_, rfl⟩
              have HG11 := Lib.hid (show w.heap.size ≤ g2 from by rw [← hg2]; exact HKca10.out.be.size)
              have HKca10a11 := Lib.hid (HKca10.out.add g2 hg2 (.cells #[.int .i64 0, .slice none 0 0, .slice none 0 0] 38 (0, 0)))
              have HL11 := Lib.hid (show g2 < w0.heap.size ∨ wc.heap.size ≤ g2 from .inr (by rw [← hg2]; exact HM.out.1))
              replace HM := Lib.hid (HM.out.alloc (.cells #[.int .i64 0, .slice none 0 0, .slice none 0 0] 38 (0, 0)))
              rw [hg2]
              obtain ⟨w11, hw11⟩ : ∃ W, w10.alloc (.cells #[.int .i64 0, .slice none 0 0, .slice none 0 0] 38 (0, 0)) = W := ⟨_, rfl⟩
              rw [hw11] at HKca10a11 HM ⊢
              clear hw11 hg2
              refine hK.out _ _ ?hsx13 (fun hN => ?restx13)
              case hsx13 => ((try dsimp only); with_reducible exact allR HKca10a11.out RP.out EY.out HKca10a11.out.be.plain)
              clear hK K hH
              have hH := hN
              clear hN
              (try simp only [Act.put, List.setIfInBounds_toArray, List.set_cons_zero, List.set_cons_succ])
              have HF := HKca10a11
              refine wpAnyH_ready (rs := [12]) (by kernel_rfl) (by simp) ?_
              refine AllReadyH.cons (op_at rfl) (fun K hK => ?_) AllReadyH.nil
              refine step_store_row rfl 30 _ _ rfl g1 #[.int .u32 t0, .int .u32 t1, .int .u32 t2, .int .u32 t3, .int .i64 th, .int .i64 tn] (by rfl) (by rfl) 30 _ (HF.out.at 3 rfl) infoSgr (by rfl) (by simp [Value.oneCell']) ?_
              have HF1 := Lib.hid (HF.out.putRow 3 rfl (.inr HG10.out) #[.int .u32 t0, .int .u32 t1, .int .u32 t2, .int .u32 t3, .int .i64 th, .int .i64 tn])
              have HM1 := Lib.hid (HM.out.row HL10.out #[.int .u32 t0, .int .u32 t1, .int .u32 t2, .int .u32 t3, .int .i64 th, .int .i64 tn])
              refine hK.out _ _ ?hsx14 (fun hN => ?restx14)
              case hsx14 => ((try dsimp only); with_reducible exact allR HF1.out RP.out EY.out HF1.out.be.plain)
              clear hK K hH HF HM
              have hH := hN
              clear hN
              refine wpAnyH_ready (rs := [13]) (by kernel_rfl) (by simp) ?_
              refine AllReadyH.cons (op_at rfl) (fun K hK => ?_) AllReadyH.nil
              refine step_store_row rfl 38 _ _ rfl g2 #[.int .i64 idx, .slice A1 n1 c1, .slice B1 m1 d1] (by rfl) (by rfl) 38 _ (HF1.out.at 4 rfl) infoSig (by rfl) (by simp [Value.oneCell']) ?_
              have HF2 := Lib.hid (HF1.out.putRow 4 rfl (.inr HG11.out) #[.int .i64 idx, .slice A1 n1 c1, .slice B1 m1 d1])
              have HM2 := Lib.hid (HM1.out.row HL11.out #[.int .i64 idx, .slice A1 n1 c1, .slice B1 m1 d1])
              refine hK.out _ _ ?hsx15 (fun hN => ?restx15)
              case hsx15 => ((try dsimp only); with_reducible exact allR HF2.out RP.out EY.out HF2.out.be.plain)
              clear hK K hH HF1 HM1
              have hH := hN
              clear hN
              simp only [Act.put]
              refine wpAnyH_take (i := 14) (v := ?vx16) (by exact op_at rfl) (by kernel_rfl) (by kernel_rfl) (by kernel_rfl) (by exact fun _ _ _ h => h) (Or.inl ⟨by rfl, ?hyx16⟩) hH ?restx16
              case hyx16 => (intro w' hSw; (try dsimp only at hSw); go_simp <;> with_reducible rfl)
              (try simp only [Act.put, List.setIfInBounds_toArray, List.set_cons_zero, List.set_cons_succ])
              refine wpAnyH_done (by kernel_rfl) ?_ _
              have HV := Lib.hid (HX.out.mid HM2.out)
              (go_wp2_with fail); go_meet; exact ⟨g1, g2, A1, B1, n1, c1, m1, d1, rfl, rfl, rfl, HF2, HV⟩
            exact AllReadyH.nil
          refine AllReadyH.cons (op_at rfl) (fun K hK => ?bx5_11) ?cx5_11
          case bx5_11 =>
            go_simp
            obtain ⟨g2, hg2⟩ : ∃ g, wc.heap.size = g := ⟨_, rfl⟩
            have HG11 := Lib.hid (show w.heap.size ≤ g2 from by rw [← hg2]; exact HKc.out.be.size)
            have HKca11 := Lib.hid (HKc.out.add g2 hg2 (.cells #[.int .i64 0, .slice none 0 0, .slice none 0 0] 38 (0, 0)))
            have HL11 := Lib.hid (show g2 < w0.heap.size ∨ wc.heap.size ≤ g2 from .inr (by rw [← hg2]; exact HM.out.1))
            replace HM := Lib.hid (HM.out.alloc (.cells #[.int .i64 0, .slice none 0 0, .slice none 0 0] 38 (0, 0)))
            rw [hg2]
            obtain ⟨w11, hw11⟩ : ∃ W, wc.alloc (.cells #[.int .i64 0, .slice none 0 0, .slice none 0 0] 38 (0, 0)) = W := ⟨_, rfl⟩
            rw [hw11] at HKca11 HM ⊢
            clear hw11 hg2
            refine hK.out _ _ ?hsx17 (fun hN => ?restx17)
            case hsx17 => ((try dsimp only); with_reducible exact allR HKca11.out RP.out EY.out HKca11.out.be.plain)
            clear hK K hH
            have hH := hN
            clear hN
            (try simp only [Act.put, List.setIfInBounds_toArray, List.set_cons_zero, List.set_cons_succ])
            refine wpAnyH_ready (rs := [10]) (by kernel_rfl) (by simp) ?_
            refine AllReadyH.cons (op_at rfl) (fun K hK => ?bx5x11_10) ?cx5x11_10
            case bx5x11_10 =>
              go_simp
              obtain ⟨g1, hg1⟩ : ∃ g, w11.heap.size = g := ⟨_, rfl⟩
              have HG10 := Lib.hid (show w.heap.size ≤ g1 from by rw [← hg1]; exact HKca11.out.be.size)
              have HKca11a10 := Lib.hid (HKca11.out.add g1 hg1 (.cells #[.int .u32 0, .int .u32 0, .int .u32 0, .int .u32 0, .int .i64 0, .int .i64 0] 30 (0, 0)))
              have HL10 := Lib.hid (show g1 < w0.heap.size ∨ wc.heap.size ≤ g1 from .inr (by rw [← hg1]; exact HM.out.1))
              replace HM := Lib.hid (HM.out.alloc (.cells #[.int .u32 0, .int .u32 0, .int .u32 0, .int .u32 0, .int .i64 0, .int .i64 0] 30 (0, 0)))
              rw [hg1]
              obtain ⟨w10, hw10⟩ : ∃ W, w11.alloc (.cells #[.int .u32 0, .int .u32 0, .int .u32 0, .int .u32 0, .int .i64 0, .int .i64 0] 30 (0, 0)) = W := ⟨_, rfl⟩
              rw [hw10] at HKca11a10 HM ⊢
              clear hw10 hg1
              refine hK.out _ _ ?hsx18 (fun hN => ?restx18)
              case hsx18 => ((try dsimp only); with_reducible exact allR HKca11a10.out RP.out EY.out HKca11a10.out.be.plain)
              clear hK K hH
              have hH := hN
              clear hN
              (try simp only [Act.put, List.setIfInBounds_toArray, List.set_cons_zero, List.set_cons_succ])
              have HF := Lib.hid (HKca11a10.out.swap34)
              refine wpAnyH_ready (rs := [12]) (by kernel_rfl) (by simp) ?_
              refine AllReadyH.cons (op_at rfl) (fun K hK => ?_) AllReadyH.nil
              refine step_store_row rfl 30 _ _ rfl g1 #[.int .u32 t0, .int .u32 t1, .int .u32 t2, .int .u32 t3, .int .i64 th, .int .i64 tn] (by rfl) (by rfl) 30 _ (HF.out.at 3 rfl) infoSgr (by rfl) (by simp [Value.oneCell']) ?_
              have HF1 := Lib.hid (HF.out.putRow 3 rfl (.inr HG10.out) #[.int .u32 t0, .int .u32 t1, .int .u32 t2, .int .u32 t3, .int .i64 th, .int .i64 tn])
              have HM1 := Lib.hid (HM.out.row HL10.out #[.int .u32 t0, .int .u32 t1, .int .u32 t2, .int .u32 t3, .int .i64 th, .int .i64 tn])
              refine hK.out _ _ ?hsx19 (fun hN => ?restx19)
              case hsx19 => ((try dsimp only); with_reducible exact allR HF1.out RP.out EY.out HF1.out.be.plain)
              clear hK K hH HF HM
              have hH := hN
              clear hN
              refine wpAnyH_ready (rs := [13]) (by kernel_rfl) (by simp) ?_
              refine AllReadyH.cons (op_at rfl) (fun K hK => ?_) AllReadyH.nil
              refine step_store_row rfl 38 _ _ rfl g2 #[.int .i64 idx, .slice A1 n1 c1, .slice B1 m1 d1] (by rfl) (by rfl) 38 _ (HF1.out.at 4 rfl) infoSig (by rfl) (by simp [Value.oneCell']) ?_
              have HF2 := Lib.hid (HF1.out.putRow 4 rfl (.inr HG11.out) #[.int .i64 idx, .slice A1 n1 c1, .slice B1 m1 d1])
              have HM2 := Lib.hid (HM1.out.row HL11.out #[.int .i64 idx, .slice A1 n1 c1, .slice B1 m1 d1])
              refine hK.out _ _ ?hsx20 (fun hN => ?restx20)
              case hsx20 => ((try dsimp only); with_reducible exact allR HF2.out RP.out EY.out HF2.out.be.plain)
              clear hK K hH HF1 HM1
              have hH := hN
              clear hN
              simp only [Act.put]
              refine wpAnyH_take (i := 14) (v := ?vx21) (by exact op_at rfl) (by kernel_rfl) (by kernel_rfl) (by kernel_rfl) (by exact fun _ _ _ h => h) (Or.inl ⟨by rfl, ?hyx21⟩) hH ?restx21
              case hyx21 => (intro w' hSw; (try dsimp only at hSw); go_simp <;> with_reducible rfl)
              (try simp only [Act.put, List.setIfInBounds_toArray, List.set_cons_zero, List.set_cons_succ])
              refine wpAnyH_done (by kernel_rfl) ?_ _
              have HV := Lib.hid (HX.out.mid HM2.out)
              (go_wp2_with fail); go_meet; exact ⟨g1, g2, A1, B1, n1, c1, m1, d1, rfl, rfl, rfl, HF2, HV⟩
            exact AllReadyH.nil
          exact AllReadyH.nil
        refine AllReadyH.cons (op_at rfl) (fun K hK => ?b_10) ?c_10
        case b_10 =>
          go_simp
          obtain ⟨g1, hg1⟩ : ∃ g, w0.heap.size = g := ⟨_, rfl⟩
          have HG10 := Lib.hid (show w.heap.size ≤ g1 from by rw [← hg1]; exact HK.out.be.size)
          have HKa10 := Lib.hid (HK.out.add g1 hg1 (.cells #[.int .u32 0, .int .u32 0, .int .u32 0, .int .u32 0, .int .i64 0, .int .i64 0] 30 (0, 0)))
          rw [hg1]
          obtain ⟨w10, hw10⟩ : ∃ W, w0.alloc (.cells #[.int .u32 0, .int .u32 0, .int .u32 0, .int .u32 0, .int .i64 0, .int .i64 0] 30 (0, 0)) = W := ⟨_, rfl⟩
          rw [hw10] at HKa10 ⊢
          clear hw10 hg1
          refine hK.out _ _ ?hsx22 (fun hN => ?restx22)
          case hsx22 => ((try dsimp only); with_reducible exact allR HKa10.out RP.out EY.out HKa10.out.be.plain)
          clear hK K hH
          have hH := hN
          clear hN
          (try simp only [Act.put, List.setIfInBounds_toArray, List.set_cons_zero, List.set_cons_succ])
          refine wpAnyH_ready (rs := [5, 11]) (by kernel_rfl) (by simp) ?_
          refine AllReadyH.cons (op_at rfl) (fun K hK => ?bx10_5) ?cx10_5
          case bx10_5 =>
            go_simp
            go_at_call 19
            (with_reducible refine (HU.out _ (HT.out.oldn HKa10.out)).mono ?_)
            rintro e wc ⟨A1, n1, c1, B1, m1, d1, rfl, hx, hb⟩
            have HX := Lib.hid hx
            have HM := Lib.hid (Md.new w10.heap.size wc)
            have HL10 := Lib.hid (show g1 < w10.heap.size ∨ wc.heap.size ≤ g1 from .inl (HKa10.out.lt 3 rfl))
            have HKa10c := Lib.hid (HKa10.out.after hb)
            clear hb hx
            go_simp
            refine hK.out _ _ ?hsx23 (fun hN => ?restx23)
            case hsx23 => ((try dsimp only); with_reducible exact allR HKa10c.out RP.out EY.out HKa10c.out.be.plain)
            clear hK K hH
            have hH := hN
            clear hN
            (try simp only [Act.put, List.setIfInBounds_toArray, List.set_cons_zero, List.set_cons_succ])
            refine wpAnyH_take (i := 6) (v := ?vx24) (by exact op_at rfl) (by kernel_rfl) (by kernel_rfl) (by kernel_rfl) (by exact fun _ _ _ h => h) (Or.inl ⟨by rfl, ?hyx24⟩) hH ?restx24
            case hyx24 => (intro w' hSw; (try dsimp only at hSw); go_simp <;> with_reducible rfl)
            (try simp only [Act.put, List.setIfInBounds_toArray, List.set_cons_zero, List.set_cons_succ])
            refine wpAnyH_take (i := 7) (v := ?vx25) (by exact op_at rfl) (by kernel_rfl) (by kernel_rfl) (by kernel_rfl) (by exact fun _ _ _ h => h) (Or.inl ⟨by rfl, ?hyx25⟩) hH ?restx25
            case hyx25 => (intro w' hSw; (try dsimp only at hSw); go_simp <;> with_reducible rfl)
            (try simp only [Act.put, List.setIfInBounds_toArray, List.set_cons_zero, List.set_cons_succ])
            refine wpAnyH_take (i := 8) (v := ?vx26) (by exact op_at rfl) (by kernel_rfl) (by kernel_rfl) (by kernel_rfl) (by exact fun _ _ _ h => h) (Or.inl ⟨by rfl, ?hyx26⟩) hH ?restx26
            case hyx26 => (intro w' hSw; (try dsimp only at hSw); go_simp <;> with_reducible rfl)
            (try simp only [Act.put, List.setIfInBounds_toArray, List.set_cons_zero, List.set_cons_succ])
            refine wpAnyH_take (i := 9) (v := ?vx27) (by exact op_at rfl) (by kernel_rfl) (by kernel_rfl) (by kernel_rfl) (by exact fun _ _ _ h => h) (Or.inl ⟨by rfl, ?hyx27⟩) hH ?restx27
            case hyx27 => (intro w' hSw; (try dsimp only at hSw); go_simp <;> with_reducible rfl)
            (try simp only [Act.put, List.setIfInBounds_toArray, List.set_cons_zero, List.set_cons_succ])
            refine wpAnyH_ready (rs := [11]) (by kernel_rfl) (by simp) ?_
            refine AllReadyH.cons (op_at rfl) (fun K hK => ?bx10x5_11) ?cx10x5_11
            case bx10x5_11 =>
              go_simp
              obtain ⟨g2, hg2⟩ : ∃ g, wc.heap.size = g := ⟨_, rfl⟩
              have HG11 := Lib.hid (show w.heap.size ≤ g2 from by rw [← hg2]; exact HKa10c.out.be.size)
              have HKa10ca11 := Lib.hid (HKa10c.out.add g2 hg2 (.cells #[.int .i64 0, .slice none 0 0, .slice none 0 0] 38 (0, 0)))
              have HL11 := Lib.hid (show g2 < w10.heap.size ∨ wc.heap.size ≤ g2 from .inr (by rw [← hg2]; exact HM.out.1))
              replace HM := Lib.hid (HM.out.alloc (.cells #[.int .i64 0, .slice none 0 0, .slice none 0 0] 38 (0, 0)))
              rw [hg2]
              obtain ⟨w11, hw11⟩ : ∃ W, wc.alloc (.cells #[.int .i64 0, .slice none 0 0, .slice none 0 0] 38 (0, 0)) = W := ⟨_, rfl⟩
              rw [hw11] at HKa10ca11 HM ⊢
              clear hw11 hg2
              refine hK.out _ _ ?hsx28 (fun hN => ?restx28)
              case hsx28 => ((try dsimp only); with_reducible exact allR HKa10ca11.out RP.out EY.out HKa10ca11.out.be.plain)
              clear hK K hH
              have hH := hN
              clear hN
              (try simp only [Act.put, List.setIfInBounds_toArray, List.set_cons_zero, List.set_cons_succ])
              have HF := HKa10ca11
              refine wpAnyH_ready (rs := [12]) (by kernel_rfl) (by simp) ?_
              refine AllReadyH.cons (op_at rfl) (fun K hK => ?_) AllReadyH.nil
              refine step_store_row rfl 30 _ _ rfl g1 #[.int .u32 t0, .int .u32 t1, .int .u32 t2, .int .u32 t3, .int .i64 th, .int .i64 tn] (by rfl) (by rfl) 30 _ (HF.out.at 3 rfl) infoSgr (by rfl) (by simp [Value.oneCell']) ?_
              have HF1 := Lib.hid (HF.out.putRow 3 rfl (.inr HG10.out) #[.int .u32 t0, .int .u32 t1, .int .u32 t2, .int .u32 t3, .int .i64 th, .int .i64 tn])
              have HM1 := Lib.hid (HM.out.row HL10.out #[.int .u32 t0, .int .u32 t1, .int .u32 t2, .int .u32 t3, .int .i64 th, .int .i64 tn])
              refine hK.out _ _ ?hsx29 (fun hN => ?restx29)
              case hsx29 => ((try dsimp only); with_reducible exact allR HF1.out RP.out EY.out HF1.out.be.plain)
              clear hK K hH HF HM
              have hH := hN
              clear hN
              refine wpAnyH_ready (rs := [13]) (by kernel_rfl) (by simp) ?_
              refine AllReadyH.cons (op_at rfl) (fun K hK => ?_) AllReadyH.nil
              refine step_store_row rfl 38 _ _ rfl g2 #[.int .i64 idx, .slice A1 n1 c1, .slice B1 m1 d1] (by rfl) (by rfl) 38 _ (HF1.out.at 4 rfl) infoSig (by rfl) (by simp [Value.oneCell']) ?_
              have HF2 := Lib.hid (HF1.out.putRow 4 rfl (.inr HG11.out) #[.int .i64 idx, .slice A1 n1 c1, .slice B1 m1 d1])
              have HM2 := Lib.hid (HM1.out.row HL11.out #[.int .i64 idx, .slice A1 n1 c1, .slice B1 m1 d1])
              refine hK.out _ _ ?hsx30 (fun hN => ?restx30)
              case hsx30 => ((try dsimp only); with_reducible exact allR HF2.out RP.out EY.out HF2.out.be.plain)
              clear hK K hH HF1 HM1
              have hH := hN
              clear hN
              simp only [Act.put]
              refine wpAnyH_take (i := 14) (v := ?vx31) (by exact op_at rfl) (by kernel_rfl) (by kernel_rfl) (by kernel_rfl) (by exact fun _ _ _ h => h) (Or.inl ⟨by rfl, ?hyx31⟩) hH ?restx31
              case hyx31 => (intro w' hSw; (try dsimp only at hSw); go_simp <;> with_reducible rfl)
              (try simp only [Act.put, List.setIfInBounds_toArray, List.set_cons_zero, List.set_cons_succ])
              refine wpAnyH_done (by kernel_rfl) ?_ _
              have HV := Lib.hid (HX.out.mid HM2.out)
              (go_wp2_with fail); go_meet; exact ⟨g1, g2, A1, B1, n1, c1, m1, d1, rfl, rfl, rfl, HF2, HV⟩
            exact AllReadyH.nil
          refine AllReadyH.cons (op_at rfl) (fun K hK => ?bx10_11) ?cx10_11
          case bx10_11 =>
            go_simp
            obtain ⟨g2, hg2⟩ : ∃ g, w10.heap.size = g := ⟨_, rfl⟩
            have HG11 := Lib.hid (show w.heap.size ≤ g2 from by rw [← hg2]; exact HKa10.out.be.size)
            have HKa10a11 := Lib.hid (HKa10.out.add g2 hg2 (.cells #[.int .i64 0, .slice none 0 0, .slice none 0 0] 38 (0, 0)))
            rw [hg2]
            obtain ⟨w11, hw11⟩ : ∃ W, w10.alloc (.cells #[.int .i64 0, .slice none 0 0, .slice none 0 0] 38 (0, 0)) = W := ⟨_, rfl⟩
            rw [hw11] at HKa10a11 ⊢
            clear hw11 hg2
            refine hK.out _ _ ?hsx32 (fun hN => ?restx32)
            case hsx32 => ((try dsimp only); with_reducible exact allR HKa10a11.out RP.out EY.out HKa10a11.out.be.plain)
            clear hK K hH
            have hH := hN
            clear hN
            (try simp only [Act.put, List.setIfInBounds_toArray, List.set_cons_zero, List.set_cons_succ])
            refine wpAnyH_ready (rs := [5]) (by kernel_rfl) (by simp) ?_
            refine AllReadyH.cons (op_at rfl) (fun K hK => ?bx10x11_5) ?cx10x11_5
            case bx10x11_5 =>
              go_simp
              go_at_call 19
              (with_reducible refine (HU.out _ (HT.out.oldn HKa10a11.out)).mono ?_)
              rintro e wc ⟨A1, n1, c1, B1, m1, d1, rfl, hx, hb⟩
              have HX := Lib.hid hx
              have HM := Lib.hid (Md.new w11.heap.size wc)
              have HL10 := Lib.hid (show g1 < w11.heap.size ∨ wc.heap.size ≤ g1 from .inl (HKa10a11.out.lt 3 rfl))
              have HL11 := Lib.hid (show g2 < w11.heap.size ∨ wc.heap.size ≤ g2 from .inl (HKa10a11.out.lt 4 rfl))
              have HKa10a11c := Lib.hid (HKa10a11.out.after hb)
              clear hb hx
              go_simp
              refine hK.out _ _ ?hsx33 (fun hN => ?restx33)
              case hsx33 => ((try dsimp only); with_reducible exact allR HKa10a11c.out RP.out EY.out HKa10a11c.out.be.plain)
              clear hK K hH
              have hH := hN
              clear hN
              (try simp only [Act.put, List.setIfInBounds_toArray, List.set_cons_zero, List.set_cons_succ])
              refine wpAnyH_take (i := 6) (v := ?vx34) (by exact op_at rfl) (by kernel_rfl) (by kernel_rfl) (by kernel_rfl) (by exact fun _ _ _ h => h) (Or.inl ⟨by rfl, ?hyx34⟩) hH ?restx34
              case hyx34 => (intro w' hSw; (try dsimp only at hSw); go_simp <;> with_reducible rfl)
              (try simp only [Act.put, List.setIfInBounds_toArray, List.set_cons_zero, List.set_cons_succ])
              refine wpAnyH_take (i := 7) (v := ?vx35) (by exact op_at rfl) (by kernel_rfl) (by kernel_rfl) (by kernel_rfl) (by exact fun _ _ _ h => h) (Or.inl ⟨by rfl, ?hyx35⟩) hH ?restx35
              case hyx35 => (intro w' hSw; (try dsimp only at hSw); go_simp <;> with_reducible rfl)
              (try simp only [Act.put, List.setIfInBounds_toArray, List.set_cons_zero, List.set_cons_succ])
              refine wpAnyH_take (i := 8) (v := ?vx36) (by exact op_at rfl) (by kernel_rfl) (by kernel_rfl) (by kernel_rfl) (by exact fun _ _ _ h => h) (Or.inl ⟨by rfl, ?hyx36⟩) hH ?restx36
              case hyx36 => (intro w' hSw; (try dsimp only at hSw); go_simp <;> with_reducible rfl)
              (try simp only [Act.put, List.setIfInBounds_toArray, List.set_cons_zero, List.set_cons_succ])
              refine wpAnyH_take (i := 9) (v := ?vx37) (by exact op_at rfl) (by kernel_rfl) (by kernel_rfl) (by kernel_rfl) (by exact fun _ _ _ h => h) (Or.inl ⟨by rfl, ?hyx37⟩) hH ?restx37
              case hyx37 => (intro w' hSw; (try dsimp only at hSw); go_simp <;> with_reducible rfl)
              (try simp only [Act.put, List.setIfInBounds_toArray, List.set_cons_zero, List.set_cons_succ])
              have HF := HKa10a11c
              refine wpAnyH_ready (rs := [12]) (by kernel_rfl) (by simp) ?_
              refine AllReadyH.cons (op_at rfl) (fun K hK => ?_) AllReadyH.nil
              refine step_store_row rfl 30 _ _ rfl g1 #[.int .u32 t0, .int .u32 t1, .int .u32 t2, .int .u32 t3, .int .i64 th, .int .i64 tn] (by rfl) (by rfl) 30 _ (HF.out.at 3 rfl) infoSgr (by rfl) (by simp [Value.oneCell']) ?_
              have HF1 := Lib.hid (HF.out.putRow 3 rfl (.inr HG10.out) #[.int .u32 t0, .int .u32 t1, .int .u32 t2, .int .u32 t3, .int .i64 th, .int .i64 tn])
              have HM1 := Lib.hid (HM.out.row HL10.out #[.int .u32 t0, .int .u32 t1, .int .u32 t2, .int .u32 t3, .int .i64 th, .int .i64 tn])
              refine hK.out _ _ ?hsx38 (fun hN => ?restx38)
              case hsx38 => ((try dsimp only); with_reducible exact allR HF1.out RP.out EY.out HF1.out.be.plain)
              clear hK K hH HF HM
              have hH := hN
              clear hN
              refine wpAnyH_ready (rs := [13]) (by kernel_rfl) (by simp) ?_
              refine AllReadyH.cons (op_at rfl) (fun K hK => ?_) AllReadyH.nil
              refine step_store_row rfl 38 _ _ rfl g2 #[.int .i64 idx, .slice A1 n1 c1, .slice B1 m1 d1] (by rfl) (by rfl) 38 _ (HF1.out.at 4 rfl) infoSig (by rfl) (by simp [Value.oneCell']) ?_
              have HF2 := Lib.hid (HF1.out.putRow 4 rfl (.inr HG11.out) #[.int .i64 idx, .slice A1 n1 c1, .slice B1 m1 d1])
              have HM2 := Lib.hid (HM1.out.row HL11.out #[.int .i64 idx, .slice A1 n1 c1, .slice B1 m1 d1])
              refine hK.out _ _ ?hsx39 (fun hN => ?restx39)
              case hsx39 => ((try dsimp only); with_reducible exact allR HF2.out RP.out EY.out HF2.out.be.plain)
              clear hK K hH HF1 HM1
              have hH := hN
              clear hN
              simp only [Act.put]
              refine wpAnyH_take (i := 14) (v := ?vx40) (by exact op_at rfl) (by kernel_rfl) (by kernel_rfl) (by kernel_rfl) (by exact fun _ _ _ h => h) (Or.inl ⟨by rfl, ?hyx40⟩) hH ?restx40
              case hyx40 => (intro w' hSw; (try dsimp only at hSw); go_simp <;> with_reducible rfl)
              (try simp only [Act.put, List.setIfInBounds_toArray, List.set_cons_zero, List.set_cons_succ])
              refine wpAnyH_done (by kernel_rfl) ?_ _
              have HV := Lib.hid (HX.out.mid HM2.out)
              (go_wp2_with fail); go_meet; exact ⟨g1, g2, A1, B1, n1, c1, m1, d1, rfl, rfl, rfl, HF2, HV⟩
            exact AllReadyH.nil
          exact AllReadyH.nil
        refine AllReadyH.cons (op_at rfl) (fun K hK => ?b_11) ?c_11
        case b_11 =>
          go_simp
          obtain ⟨g2, hg2⟩ : ∃ g, w0.heap.size = g := ⟨_, rfl⟩
          have HG11 := Lib.hid (show w.heap.size ≤ g2 from by rw [← hg2]; exact HK.out.be.size)
          have HKa11 := Lib.hid (HK.out.add g2 hg2 (.cells #[.int .i64 0, .slice none 0 0, .slice none 0 0] 38 (0, 0)))
          rw [hg2]
          obtain ⟨w11, hw11⟩ : ∃ W, w0.alloc (.cells #[.int .i64 0, .slice none 0 0, .slice none 0 0] 38 (0, 0)) = W := ⟨_, rfl⟩
          rw [hw11] at HKa11 ⊢
          clear hw11 hg2
          refine hK.out _ _ ?hsx41 (fun hN => ?restx41)
          case hsx41 => ((try dsimp only); with_reducible exact allR HKa11.out RP.out EY.out HKa11.out.be.plain)
          clear hK K hH
          have hH := hN
          clear hN
          (try simp only [Act.put, List.setIfInBounds_toArray, List.set_cons_zero, List.set_cons_succ])
          refine wpAnyH_ready (rs := [5, 10]) (by kernel_rfl) (by simp) ?_
          refine AllReadyH.cons (op_at rfl) (fun K hK => ?bx11_5) ?cx11_5
          case bx11_5 =>
            go_simp
            go_at_call 19
            (with_reducible refine (HU.out _ (HT.out.oldn HKa11.out)).mono ?_)
            rintro e wc ⟨A1, n1, c1, B1, m1, d1, rfl, hx, hb⟩
            have HX := Lib.hid hx
            have HM := Lib.hid (Md.new w11.heap.size wc)
            have HL11 := Lib.hid (show g2 < w11.heap.size ∨ wc.heap.size ≤ g2 from .inl (HKa11.out.lt 3 rfl))
            have HKa11c := Lib.hid (HKa11.out.after hb)
            clear hb hx
            go_simp
            refine hK.out _ _ ?hsx42 (fun hN => ?restx42)
            case hsx42 => ((try dsimp only); with_reducible exact allR HKa11c.out RP.out EY.out HKa11c.out.be.plain)
            clear hK K hH
            have hH := hN
            clear hN
            (try simp only [Act.put, List.setIfInBounds_toArray, List.set_cons_zero, List.set_cons_succ])
            refine wpAnyH_take (i := 6) (v := ?vx43) (by exact op_at rfl) (by kernel_rfl) (by kernel_rfl) (by kernel_rfl) (by exact fun _ _ _ h => h) (Or.inl ⟨by rfl, ?hyx43⟩) hH ?restx43
            case hyx43 => (intro w' hSw; (try dsimp only at hSw); go_simp <;> with_reducible rfl)
            (try simp only [Act.put, List.setIfInBounds_toArray, List.set_cons_zero, List.set_cons_succ])
            refine wpAnyH_take (i := 7) (v := ?vx44) (by exact op_at rfl) (by kernel_rfl) (by kernel_rfl) (by kernel_rfl) (by exact fun _ _ _ h => h) (Or.inl ⟨by rfl, ?hyx44⟩) hH ?restx44
            case hyx44 => (intro w' hSw; (try dsimp only at hSw); go_simp <;> with_reducible rfl)
            (try simp only [Act.put, List.setIfInBounds_toArray, List.set_cons_zero, List.set_cons_succ])
            refine wpAnyH_take (i := 8) (v := ?vx45) (by exact op_at rfl) (by kernel_rfl) (by kernel_rfl) (by kernel_rfl) (by exact fun _ _ _ h => h) (Or.inl ⟨by rfl, ?hyx45⟩) hH ?restx45
            case hyx45 => (intro w' hSw; (try dsimp only at hSw); go_simp <;> with_reducible rfl)
            (try simp only [Act.put, List.setIfInBounds_toArray, List.set_cons_zero, List.set_cons_succ])
            refine wpAnyH_take (i := 9) (v := ?vx46) (by exact op_at rfl) (by kernel_rfl) (by kernel_rfl) (by kernel_rfl) (by exact fun _ _ _ h => h) (Or.inl ⟨by rfl, ?hyx46⟩) hH ?restx46
            case hyx46 => (intro w' hSw; (try dsimp only at hSw); go_simp <;> with_reducible rfl)
            (try simp only [Act.put, List.setIfInBounds_toArray, List.set_cons_zero, List.set_cons_succ])
            refine wpAnyH_ready (rs := [10]) (by kernel_rfl) (by simp) ?_
            refine AllReadyH.cons (op_at rfl) (fun K hK => ?bx11x5_10) ?cx11x5_10
            case bx11x5_10 =>
              go_simp
              obtain ⟨g1, hg1⟩ : ∃ g, wc.heap.size = g := ⟨_, rfl⟩
              have HG10 := Lib.hid (show w.heap.size ≤ g1 from by rw [← hg1]; exact HKa11c.out.be.size)
              have HKa11ca10 := Lib.hid (HKa11c.out.add g1 hg1 (.cells #[.int .u32 0, .int .u32 0, .int .u32 0, .int .u32 0, .int .i64 0, .int .i64 0] 30 (0, 0)))
              have HL10 := Lib.hid (show g1 < w11.heap.size ∨ wc.heap.size ≤ g1 from .inr (by rw [← hg1]; exact HM.out.1))
              replace HM := Lib.hid (HM.out.alloc (.cells #[.int .u32 0, .int .u32 0, .int .u32 0, .int .u32 0, .int .i64 0, .int .i64 0] 30 (0, 0)))
              rw [hg1]
              obtain ⟨w10, hw10⟩ : ∃ W, wc.alloc (.cells #[.int .u32 0, .int .u32 0, .int .u32 0, .int .u32 0, .int .i64 0, .int .i64 0] 30 (0, 0)) = W := ⟨_, rfl⟩
              rw [hw10] at HKa11ca10 HM ⊢
              clear hw10 hg1
              refine hK.out _ _ ?hsx47 (fun hN => ?restx47)
              case hsx47 => ((try dsimp only); with_reducible exact allR HKa11ca10.out RP.out EY.out HKa11ca10.out.be.plain)
              clear hK K hH
              have hH := hN
              clear hN
              (try simp only [Act.put, List.setIfInBounds_toArray, List.set_cons_zero, List.set_cons_succ])
              have HF := Lib.hid (HKa11ca10.out.swap34)
              refine wpAnyH_ready (rs := [12]) (by kernel_rfl) (by simp) ?_
              refine AllReadyH.cons (op_at rfl) (fun K hK => ?_) AllReadyH.nil
              refine step_store_row rfl 30 _ _ rfl g1 #[.int .u32 t0, .int .u32 t1, .int .u32 t2, .int .u32 t3, .int .i64 th, .int .i64 tn] (by rfl) (by rfl) 30 _ (HF.out.at 3 rfl) infoSgr (by rfl) (by simp [Value.oneCell']) ?_
              have HF1 := Lib.hid (HF.out.putRow 3 rfl (.inr HG10.out) #[.int .u32 t0, .int .u32 t1, .int .u32 t2, .int .u32 t3, .int .i64 th, .int .i64 tn])
              have HM1 := Lib.hid (HM.out.row HL10.out #[.int .u32 t0, .int .u32 t1, .int .u32 t2, .int .u32 t3, .int .i64 th, .int .i64 tn])
              refine hK.out _ _ ?hsx48 (fun hN => ?restx48)
              case hsx48 => ((try dsimp only); with_reducible exact allR HF1.out RP.out EY.out HF1.out.be.plain)
              clear hK K hH HF HM
              have hH := hN
              clear hN
              refine wpAnyH_ready (rs := [13]) (by kernel_rfl) (by simp) ?_
              refine AllReadyH.cons (op_at rfl) (fun K hK => ?_) AllReadyH.nil
              refine step_store_row rfl 38 _ _ rfl g2 #[.int .i64 idx, .slice A1 n1 c1, .slice B1 m1 d1] (by rfl) (by rfl) 38 _ (HF1.out.at 4 rfl) infoSig (by rfl) (by simp [Value.oneCell']) ?_
              have HF2 := Lib.hid (HF1.out.putRow 4 rfl (.inr HG11.out) #[.int .i64 idx, .slice A1 n1 c1, .slice B1 m1 d1])
              have HM2 := Lib.hid (HM1.out.row HL11.out #[.int .i64 idx, .slice A1 n1 c1, .slice B1 m1 d1])
              refine hK.out _ _ ?hsx49 (fun hN => ?restx49)
              case hsx49 => ((try dsimp only); with_reducible exact allR HF2.out RP.out EY.out HF2.out.be.plain)
              clear hK K hH HF1 HM1
              have hH := hN
              clear hN
              simp only [Act.put]
              refine wpAnyH_take (i := 14) (v := ?vx50) (by exact op_at rfl) (by kernel_rfl) (by kernel_rfl) (by kernel_rfl) (by exact fun _ _ _ h => h) (Or.inl ⟨by rfl, ?hyx50⟩) hH ?restx50
              case hyx50 => (intro w' hSw; (try dsimp only at hSw); go_simp <;> with_reducible rfl)
              (try simp only [Act.put, List.setIfInBounds_toArray, List.set_cons_zero, List.set_cons_succ])
              refine wpAnyH_done (by kernel_rfl) ?_ _
              have HV := Lib.hid (HX.out.mid HM2.out)
              (go_wp2_with fail); go_meet; exact ⟨g1, g2, A1, B1, n1, c1, m1, d1, rfl, rfl, rfl, HF2, HV⟩
            exact AllReadyH.nil
          refine AllReadyH.cons (op_at rfl) (fun K hK => ?bx11_10) ?cx11_10
          case bx11_10 =>
            go_simp
            obtain ⟨g1, hg1⟩ : ∃ g, w11.heap.size = g := ⟨_, rfl⟩
            have HG10 := Lib.hid (show w.heap.size ≤ g1 from by rw [← hg1]; exact HKa11.out.be.size)
            have HKa11a10 := Lib.hid (HKa11.out.add g1 hg1 (.cells #[.int .u32 0, .int .u32 0, .int .u32 0, .int .u32 0, .int .i64 0, .int .i64 0] 30 (0, 0)))
            rw [hg1]
            obtain ⟨w10, hw10⟩ : ∃ W, w11.alloc (.cells #[.int .u32 0, .int .u32 0, .int .u32 0, .int .u32 0, .int .i64 0, .int .i64 0] 30 (0, 0)) = W := ⟨_, rfl⟩
            rw [hw10] at HKa11a10 ⊢
            clear hw10 hg1
            refine hK.out _ _ ?hsx51 (fun hN => ?restx51)
            case hsx51 => ((try dsimp only); with_reducible exact allR HKa11a10.out RP.out EY.out HKa11a10.out.be.plain)
            clear hK K hH
            have hH := hN
            clear hN
            (try simp only [Act.put, List.setIfInBounds_toArray, List.set_cons_zero, List.set_cons_succ])
            refine wpAnyH_ready (rs := [5]) (by kernel_rfl) (by simp) ?_
            refine AllReadyH.cons (op_at rfl) (fun K hK => ?bx11x10_5) ?cx11x10_5
            case bx11x10_5 =>
              go_simp
              go_at_call 19
              (with_reducible refine (HU.out _ (HT.out.oldn HKa11a10.out)).mono ?_)
              rintro e wc ⟨A1, n1, c1, B1, m1, d1, rfl, hx, hb⟩
              have HX := Lib.hid hx
              have HM := Lib.hid (Md.new w10.heap.size wc)
              have HL11 := Lib.hid (show g2 < w10.heap.size ∨ wc.heap.size ≤ g2 from .inl (HKa11a10.out.lt 3 rfl))
              have HL10 := Lib.hid (show g1 < w10.heap.size ∨ wc.heap.size ≤ g1 from .inl (HKa11a10.out.lt 4 rfl))
              have HKa11a10c := Lib.hid (HKa11a10.out.after hb)
              clear hb hx
              go_simp
              refine hK.out _ _ ?hsx52 (fun hN => ?restx52)
              case hsx52 => ((try dsimp only); with_reducible exact allR HKa11a10c.out RP.out EY.out HKa11a10c.out.be.plain)
              clear hK K hH
              have hH := hN
              clear hN
              (try simp only [Act.put, List.setIfInBounds_toArray, List.set_cons_zero, List.set_cons_succ])
              refine wpAnyH_take (i := 6) (v := ?vx53) (by exact op_at rfl) (by kernel_rfl) (by kernel_rfl) (by kernel_rfl) (by exact fun _ _ _ h => h) (Or.inl ⟨by rfl, ?hyx53⟩) hH ?restx53
              case hyx53 => (intro w' hSw; (try dsimp only at hSw); go_simp <;> with_reducible rfl)
              (try simp only [Act.put, List.setIfInBounds_toArray, List.set_cons_zero, List.set_cons_succ])
              refine wpAnyH_take (i := 7) (v := ?vx54) (by exact op_at rfl) (by kernel_rfl) (by kernel_rfl) (by kernel_rfl) (by exact fun _ _ _ h => h) (Or.inl ⟨by rfl, ?hyx54⟩) hH ?restx54
              case hyx54 => (intro w' hSw; (try dsimp only at hSw); go_simp <;> with_reducible rfl)
              (try simp only [Act.put, List.setIfInBounds_toArray, List.set_cons_zero, List.set_cons_succ])
              refine wpAnyH_take (i := 8) (v := ?vx55) (by exact op_at rfl) (by kernel_rfl) (by kernel_rfl) (by kernel_rfl) (by exact fun _ _ _ h => h) (Or.inl ⟨by rfl, ?hyx55⟩) hH ?restx55
              case hyx55 => (intro w' hSw; (try dsimp only at hSw); go_simp <;> with_reducible rfl)
              (try simp only [Act.put, List.setIfInBounds_toArray, List.set_cons_zero, List.set_cons_succ])
              refine wpAnyH_take (i := 9) (v := ?vx56) (by exact op_at rfl) (by kernel_rfl) (by kernel_rfl) (by kernel_rfl) (by exact fun _ _ _ h => h) (Or.inl ⟨by rfl, ?hyx56⟩) hH ?restx56
              case hyx56 => (intro w' hSw; (try dsimp only at hSw); go_simp <;> with_reducible rfl)
              (try simp only [Act.put, List.setIfInBounds_toArray, List.set_cons_zero, List.set_cons_succ])
              have HF := Lib.hid (HKa11a10c.out.swap34)
              refine wpAnyH_ready (rs := [12]) (by kernel_rfl) (by simp) ?_
              refine AllReadyH.cons (op_at rfl) (fun K hK => ?_) AllReadyH.nil
              refine step_store_row rfl 30 _ _ rfl g1 #[.int .u32 t0, .int .u32 t1, .int .u32 t2, .int .u32 t3, .int .i64 th, .int .i64 tn] (by rfl) (by rfl) 30 _ (HF.out.at 3 rfl) infoSgr (by rfl) (by simp [Value.oneCell']) ?_
              have HF1 := Lib.hid (HF.out.putRow 3 rfl (.inr HG10.out) #[.int .u32 t0, .int .u32 t1, .int .u32 t2, .int .u32 t3, .int .i64 th, .int .i64 tn])
              have HM1 := Lib.hid (HM.out.row HL10.out #[.int .u32 t0, .int .u32 t1, .int .u32 t2, .int .u32 t3, .int .i64 th, .int .i64 tn])
              refine hK.out _ _ ?hsx57 (fun hN => ?restx57)
              case hsx57 => ((try dsimp only); with_reducible exact allR HF1.out RP.out EY.out HF1.out.be.plain)
              clear hK K hH HF HM
              have hH := hN
              clear hN
              refine wpAnyH_ready (rs := [13]) (by kernel_rfl) (by simp) ?_
              refine AllReadyH.cons (op_at rfl) (fun K hK => ?_) AllReadyH.nil
              refine step_store_row rfl 38 _ _ rfl g2 #[.int .i64 idx, .slice A1 n1 c1, .slice B1 m1 d1] (by rfl) (by rfl) 38 _ (HF1.out.at 4 rfl) infoSig (by rfl) (by simp [Value.oneCell']) ?_
              have HF2 := Lib.hid (HF1.out.putRow 4 rfl (.inr HG11.out) #[.int .i64 idx, .slice A1 n1 c1, .slice B1 m1 d1])
              have HM2 := Lib.hid (HM1.out.row HL11.out #[.int .i64 idx, .slice A1 n1 c1, .slice B1 m1 d1])
              refine hK.out _ _ ?hsx58 (fun hN => ?restx58)
              case hsx58 => ((try dsimp only); with_reducible exact allR HF2.out RP.out EY.out HF2.out.be.plain)
              clear hK K hH HF1 HM1
              have hH := hN
              clear hN
              simp only [Act.put]
              refine wpAnyH_take (i := 14) (v := ?vx59) (by exact op_at rfl) (by kernel_rfl) (by kernel_rfl) (by kernel_rfl) (by exact fun _ _ _ h => h) (Or.inl ⟨by rfl, ?hyx59⟩) hH ?restx59
              case hyx59 => (intro w' hSw; (try dsimp only at hSw); go_simp <;> with_reducible rfl)
              (try simp only [Act.put, List.setIfInBounds_toArray, List.set_cons_zero, List.set_cons_succ])
              refine wpAnyH_done (by kernel_rfl) ?_ _
              have HV := Lib.hid (HX.out.mid HM2.out)
              (go_wp2_with fail); go_meet; exact ⟨g1, g2, A1, B1, n1, c1, m1, d1, rfl, rfl, rfl, HF2, HV⟩
            exact AllReadyH.nil
          exact AllReadyH.nil
        exact AllReadyH.nil
      case rest =>
        obtain ⟨g1, g2, A1, B1, n1, c1, m1, d1, rfl, rfl, rfl, HK, HV⟩ := hcut
        clear f0 f1 f2 f3 a0 a1 a2 a3 a4 a5 b0 b1 b2 b3 b4 b5
        rcases HCC.out with ⟨hm, rfl, rfl, rfl, rfl, rfl, rfl, rfl, rfl, rfl, rfl⟩ | ⟨hm, rfl, rfl, rfl, rfl, rfl, rfl, rfl⟩
        · obtain rfl : j = s := (hs1 hm).symm
          clear HCC HU
          have hcc := check6 (msg := [y0, y1, y2, y3]) (pub := [p0, p1, p2, p3]) (idx := (j : Int)) (one := sgn (ksd [x0, x1, x2, x3] j) [y0, y1, y2, y3]) (path := mway (kys [x0, x1, x2, x3] 0) j) (v := .agg #[.int .i64 (j : Int), .slice A1 n1 c1, .slice B1 m1 d1])
          rw [show khd [p0, p1, p2, p3] [y0, y1, y2, y3] (j : Int) (sgn (ksd [x0, x1, x2, x3] j) [y0, y1, y2, y3]) (mway (kys [x0, x1, x2, x3] 0) j) = true from by rw [← EP.out]; exact khd_sig (by omega) (by omega)] at hcc
          have CK := Lib.hid (fun W hv ht => hcc W (by rw [← EP.out]; exact OP.out) OY.out hv ht)
          clear hcc
          generalize sgn (ksd [x0, x1, x2, x3] j) [y0, y1, y2, y3] = one at *
          generalize mway (kys [x0, x1, x2, x3] 0) j = path at *
          rw [ag4, ag4] at CK
          have k0 : ¬ (1 : Int) ≤ (j : Int) := by omega
          have hgd := (RP.out.oldn HK.out)
          obtain ⟨l0, l1, l2, _⟩ := cells3 (HK.out.at 4 rfl)
          go_upto_region 21 with fail
          have HK1 := Lib.hid HK.out.drew
          have HV1 := Lib.hid (HV.out.kept (Below.refl _ _).drew)
          clear l0 l1 l2 hgd
          go_region_held3 (fun W => W.cell? ⟨q11, 0, none⟩ = some (.int .u32 p0) ∧ W.cell? ⟨q11, 1, none⟩ = some (.int .u32 p1) ∧ W.cell? ⟨q11, 2, none⟩ = some (.int .u32 p2) ∧ W.cell? ⟨q11, 3, none⟩ = some (.int .u32 p3) ∧ W.cell? ⟨g2, 0, none⟩ = some (.int .i64 (j : Int)) ∧ W.cell? ⟨g2, 1, none⟩ = some (.slice A1 n1 c1) ∧ W.cell? ⟨g2, 2, none⟩ = some (.slice B1 m1 d1) ∧ W.cell? ⟨bl, ol + j * 4, none⟩ = some (.int .u32 y0) ∧ W.cell? ⟨bl, ol + j * 4 + 1, none⟩ = some (.int .u32 y1) ∧ W.cell? ⟨bl, ol + j * 4 + 2, none⟩ = some (.int .u32 y2) ∧ W.cell? ⟨bl, ol + j * 4 + 3, none⟩ = some (.int .u32 y3))
            (with_reducible exact allQR HK1.out RP.out EY.out HK1.out.be.plain)
            (first
              | (go_at_call 17; (with_reducible refine (CK.out _ HV1.out (HT.out.oldn HK1.out)).mono ?_); rintro e w' ⟨rfl, hb⟩; replace HK1 := Lib.hid (HK1.out.after hb); clear hb))
          all_goals
            obtain ⟨a0, a1, a2, a3, a4, a5, _⟩ := cells6 (HK1.out.at 3 rfl)
            obtain ⟨_, _, _, _, _, _, b0, b1, b2, b3, b4, b5⟩ := cells6 (HK1.out.at 1 rfl)
            have HK2 := Lib.hid ((HK1.out.put6 1 rfl (.inr (Nat.le_of_lt HQ9L.out)) (.int .u32 x0) (.int .u32 x1) (.int .u32 x2) (.int .u32 x3) (.int .i64 0) (.int .i64 ((j : Int) + 1))).first 3)
            go_wp2_with fail
            go_roundw
            case rel => exact ⟨j + 1, j + 1, by omega, by go_num, fun _ => rfl, fun _ => by omega, by rw [show ((j + 1 : Nat) : Int) = (j : Int) + 1 from by push_cast; rfl]; exact HK2⟩
            case measure => simp [intOf]; omega
        · obtain ⟨a0, a1, a2, a3, a4, a5, _⟩ := cells6 (HK.out.at 3 rfl)
          have k0 : (1 : Int) ≤ (j : Int) := by omega
          go_wp2_with fail
          go_roundw
          case rel => exact ⟨j + 1, s, by omega, by go_num, fun _ => by omega, fun _ => hs2 hm, Lib.hid (HK.out.first 3)⟩
          case measure => simp [intOf]; omega
    · obtain rfl : j = n := by omega
      have u1 : ¬ (j : Int) < (j : Int) := by omega
      go_wp2_with fail
      go_ret
      exact ⟨rfl, HK.out.be.plain⟩
set_option maxRecDepth 100000 in
set_option maxHeartbeats 4000000 in
theorem walk_high {x0 x1 x2 x3 : Int} {A : Option Addr} {n cap : Nat} {l : Dl} (o0 : Ok4 [x0, x1, x2, x3]) (hl : l.length = n) (hc : n ≤ cap) (h4 : n ≤ 4) (w : World) (hd : Dd w A l) (ht : Tabs w) :
    Calls Tryd.prog 7 #[ag [x0, x1, x2, x3], .bool true, .slice A n cap] w fun e w' => e = .returned (.bool true) ∧ Below w.heap.size w w' := by
  have CA := Lib.hid (fun w ht => awake6 w ht)
  have c1 := fun w => new6_yes 1 w o0 (by omega) (by omega)
  have c2 := fun w ht => public6_yes _ 1 w o0 (by omega) ht
  have op := kpub_ok o0 1
  obtain ⟨p0, p1, p2, p3, ep, _⟩ := ok4 op
  rw [ep, ag4, ag4, show ((1 : Nat) : Int) = 1 from rfl] at c2
  have EP := Lib.hid ep
  have OP := Lib.hid op
  have O0 := Lib.hid o0
  have HL := Lib.hid hl
  have HD0 := Lib.hid hd
  have C1 := Lib.hid c1
  have C2 := Lib.hid c2
  have i0 : ¬ (4 : Int) < (n : Int) := by omega
  have qs := eqSg
  rw [ag4]
  have HT := Lib.hid ht
  have HK := Lib.hid ((Kx.nil none w).more (.cells #[.int .u32 x0, .int .u32 x1, .int .u32 x2, .int .u32 x3] 24 (0, 0)))
  clear ht hd hl c1 c2 ep op
  go_enter Tryd.func7, Tryd.ntmps7
  go_wp2_with fail
  refine (CA.out _ (HT.out.oldn HK.out)).mono ?_
  rintro e w1 ⟨rfl, hb⟩
  replace HK := Lib.hid (HK.out.after hb)
  clear hb
  obtain ⟨a0, a1, a2, a3, _⟩ := cells4 (HK.out.at 0 rfl)
  go_wp2_with fail
  refine (C1.out _).mono ?_
  rintro e w2 ⟨rfl, hb⟩
  have HW2 := Lib.hid ((HK.out.after hb).lt 0 rfl)
  replace HK := Lib.hid ((HK.out.after hb).more (.cells #[.int .u32 x0, .int .u32 x1, .int .u32 x2, .int .u32 x3, .int .i64 1, .int .i64 0] 30 (0, 0)))
  clear hb a0 a1 a2 a3
  obtain ⟨a0, a1, a2, a3, _⟩ := cells4 (HK.out.at 0 rfl)
  go_wp2_with fail
  obtain ⟨q9, hq9⟩ : ∃ q, w2.heap.size = q := ⟨_, rfl⟩
  have HQ9L : Hid (w.heap.size < q9) := Lib.hid (by rw [← hq9]; exact HW2.out)
  rw [hq9] at HK ⊢
  refine (C2.out _ (HT.out.oldn HK.out)).mono ?_
  rintro e w3 ⟨rfl, hb⟩
  replace HK := Lib.hid ((HK.out.after hb).more (.cells #[.int .u32 p0, .int .u32 p1, .int .u32 p2, .int .u32 p3] 24 (0, 0)))
  clear hb a0 a1 a2 a3
  go_wp2_with fail
  obtain ⟨q11, hq11⟩ : ∃ q, w3.heap.size = q := ⟨_, rfl⟩
  rw [hq11] at HK ⊢
  obtain ⟨W4, hW4⟩ : ∃ W, w3.alloc (.cells #[.int .u32 p0, .int .u32 p1, .int .u32 p2, .int .u32 p3] 24) = W := ⟨_, rfl⟩
  rw [hW4] at HK ⊢
  clear hW4 hq11 hq9
  go_loopw [13] (fun v wr => ∃ (j s : Nat), j ≤ n ∧ v = .int .i64 (j : Int) ∧ (j < 2 → s = j) ∧ (2 ≤ j → s = 2) ∧ Hid (Kx none w wr [(w.heap.size, .cells #[.int .u32 x0, .int .u32 x1, .int .u32 x2, .int .u32 x3] 24 (0, 0)), (q9, .cells #[.int .u32 x0, .int .u32 x1, .int .u32 x2, .int .u32 x3, .int .i64 1, .int .i64 (s : Int)] 30 (0, 0)), (q11, .cells #[.int .u32 p0, .int .u32 p1, .int .u32 p2, .int .u32 p3] 24 (0, 0))])) (fun v _ => n - (intOf v).toNat)
  case atStart => exact ⟨0, 0, Nat.zero_le _, rfl, fun _ => rfl, fun h => by omega, HK⟩
  case round =>
    clear HK
    obtain ⟨j, s, hj, rfl, hs1, hs2, HK⟩ := hrel
    by_cases hlt : j < n
    · have hne : l ≠ [] := by intro e; have := HL.out; rw [e] at this; simp at this; omega
      obtain ⟨bl, ol, rfl, rp⟩ := HD0.out.2 hne
      obtain ⟨y0, y1, y2, y3, ey, oy⟩ := rp.get (j := j) (by rw [HL.out]; exact hlt)
      have EY := Lib.hid ey
      have OY := Lib.hid oy
      have RP := Lib.hid rp
      have j0 : (0 : Int) ≤ (j : Int) := by omega
      have j1 : (j : Int) < (n : Int) := by omega
      clear ey oy rp hne
      obtain ⟨t0, t1, t2, t3, th, tn, idx, er, one, path, HU, HC⟩ : ∃ (t0 t1 t2 t3 th tn idx er : Int) (one path : Dl), Hid (UseJ x0 x1 x2 x3 y0 y1 y2 y3 1 s t0 t1 t2 t3 th tn idx er one path) ∧
          ((j < 2 ∧ er = 0 ∧ idx = (j : Int) ∧ x0 = t0 ∧ x1 = t1 ∧ x2 = t2 ∧ x3 = t3 ∧ th = 1 ∧ tn = (j : Int) + 1 ∧ one = sgn (ksd [x0, x1, x2, x3] j) [y0, y1, y2, y3] ∧ path = mway (kys [x0, x1, x2, x3] 1) j) ∨ (2 ≤ j ∧ er = 9 ∧ t0 = 0 ∧ t1 = 0 ∧ t2 = 0 ∧ t3 = 0 ∧ th = 0 ∧ tn = 0)) := by
        by_cases hm : j < 2
        · obtain rfl := hs1 hm
          exact ⟨_, _, _, _, _, _, _, _, _, _, Lib.hid (use_good (h := 1) rfl O0.out OY.out (by omega) (by omega)), .inl ⟨hm, rfl, rfl, rfl, rfl, rfl, rfl, rfl, rfl, rfl, rfl⟩⟩
        · exact ⟨_, _, _, _, _, _, _, _, [], [], Lib.hid (use_used (h := 1) rfl O0.out OY.out (by omega) (by have := hs2 (by omega); omega)), .inr ⟨by omega, rfl, rfl, rfl, rfl, rfl, rfl, rfl⟩⟩
      obtain ⟨f0, f1, f2, f3⟩ := (RP.out.oldn HK.out).four EY.out
      obtain ⟨a0, a1, a2, a3, a4, a5, b0, b1, b2, b3, b4, b5⟩ := cells6 (HK.out.at 1 rfl)
      have HCC := Lib.hid HC
      clear HC
      go_upto_region 17 with fail
      go_cut [14, 15, 16] (fun s14 s15 s16 wx => ∃ (g1 g2 : Nat) (A1 B1 : Option Addr) (n1 c1 m1 d1 : Nat), s14 = .pointer (some ⟨g1, 0, none⟩) ∧ s15 = .pointer (some ⟨g2, 0, none⟩) ∧ s16 = .int .i64 er ∧ Hid (Kx none w wx [(w.heap.size, .cells #[.int .u32 x0, .int .u32 x1, .int .u32 x2, .int .u32 x3] 24 (0, 0)), (q9, .cells #[.int .u32 x0, .int .u32 x1, .int .u32 x2, .int .u32 x3, .int .i64 1, .int .i64 (s : Int)] 30 (0, 0)), (q11, .cells #[.int .u32 p0, .int .u32 p1, .int .u32 p2, .int .u32 p3] 24 (0, 0)), (g1, .cells #[.int .u32 t0, .int .u32 t1, .int .u32 t2, .int .u32 t3, .int .i64 th, .int .i64 tn] 30 (0, 0)), (g2, .cells #[.int .i64 idx, .slice A1 n1 c1, .slice B1 m1 d1] 38 (0, 0))]) ∧ Hid (SgV wx (.agg #[.int .i64 idx, .slice A1 n1 c1, .slice B1 m1 d1]) idx one path))
      case first =>
        replace HK := Lib.hid HK.out.drew
        clear b0 b1 b2 b3 b4 b5
        refine wp_region_held_drew (S := fun W => W.cell? ⟨q9, 0, none⟩ = some (.int .u32 x0) ∧ W.cell? ⟨q9, 1, none⟩ = some (.int .u32 x1) ∧ W.cell? ⟨q9, 2, none⟩ = some (.int .u32 x2) ∧ W.cell? ⟨q9, 3, none⟩ = some (.int .u32 x3) ∧ W.cell? ⟨q9, 4, none⟩ = some (.int .i64 1) ∧ W.cell? ⟨q9, 5, none⟩ = some (.int .i64 (s : Int)) ∧ W.cell? ⟨bl, ol + j * 4, none⟩ = some (.int .u32 y0) ∧ W.cell? ⟨bl, ol + j * 4 + 1, none⟩ = some (.int .u32 y1) ∧ W.cell? ⟨bl, ol + j * 4 + 2, none⟩ = some (.int .u32 y2) ∧ W.cell? ⟨bl, ol + j * 4 + 3, none⟩ = some (.int .u32 y3)) (by kernel_rfl) ?hsx60 (fun hH => ?restx60)
        case hsx60 => ((try dsimp only); with_reducible exact allR HK.out RP.out EY.out HK.out.be.plain)
        obtain ⟨w0, hw0⟩ : ∃ W, wr.drew = W := ⟨_, rfl⟩
        rw [hw0] at HK hH ⊢
        clear hw0
        refine wpAnyH_take (i := 0) (v := ?vx61) (by exact op_at rfl) (by kernel_rfl) (by kernel_rfl) (by kernel_rfl) (by exact fun _ _ _ h => h) (Or.inl ⟨by rfl, ?hyx61⟩) hH ?restx61
        case hyx61 => (intro w' hSw; (try dsimp only at hSw); go_simp <;> with_reducible rfl)
        (try simp only [Act.put, List.setIfInBounds_toArray, List.set_cons_zero, List.set_cons_succ])
        refine wpAnyH_take (i := 1) (v := ?vx62) (by exact op_at rfl) (by kernel_rfl) (by kernel_rfl) (by kernel_rfl) (by exact fun _ _ _ h => h) (Or.inl ⟨by rfl, ?hyx62⟩) hH ?restx62
        case hyx62 => (intro w' hSw; (try dsimp only at hSw); go_simp <;> with_reducible rfl)
        (try simp only [Act.put, List.setIfInBounds_toArray, List.set_cons_zero, List.set_cons_succ])
        refine wpAnyH_take (i := 2) (v := ?vx63) (by exact op_at rfl) (by kernel_rfl) (by kernel_rfl) (by kernel_rfl) (by exact fun _ _ _ h => h) (Or.inl ⟨by rfl, ?hyx63⟩) hH ?restx63
        case hyx63 => (intro w' hSw; (try dsimp only at hSw); go_simp <;> with_reducible rfl)
        (try simp only [Act.put, List.setIfInBounds_toArray, List.set_cons_zero, List.set_cons_succ])
        refine wpAnyH_take (i := 3) (v := ?vx64) (by exact op_at rfl) (by kernel_rfl) (by kernel_rfl) (by kernel_rfl) (by exact fun _ _ _ h => h) (Or.inl ⟨by rfl, ?hyx64⟩) hH ?restx64
        case hyx64 => (intro w' hSw; (try dsimp only at hSw); go_simp <;> with_reducible rfl)
        (try simp only [Act.put, List.setIfInBounds_toArray, List.set_cons_zero, List.set_cons_succ])
        refine wpAnyH_take (i := 4) (v := ?vx65) (by exact op_at rfl) (by kernel_rfl) (by kernel_rfl) (by kernel_rfl) (by exact fun _ _ _ h => h) (Or.inl ⟨by rfl, ?hyx65⟩) hH ?restx65
        case hyx65 => (intro w' hSw; (try dsimp only at hSw); go_simp <;> with_reducible rfl)
        (try simp only [Act.put, List.setIfInBounds_toArray, List.set_cons_zero, List.set_cons_succ])
        refine wpAnyH_ready (rs := [5, 10, 11]) (by kernel_rfl) (by simp) ?_
        refine AllReadyH.cons (op_at rfl) (fun K hK => ?b_5) ?c_5
        case b_5 =>
          go_simp
          go_at_call 19
          (with_reducible refine (HU.out _ (HT.out.oldn HK.out)).mono ?_)
          rintro e wc ⟨A1, n1, c1, B1, m1, d1, rfl, hx, hb⟩
          have HX := Lib.hid hx
          have HM := Lib.hid (Md.new w0.heap.size wc)
          have HKc := Lib.hid (HK.out.after hb)
          clear hb hx
          go_simp
          refine hK.out _ _ ?hsx66 (fun hN => ?restx66)
          case hsx66 => ((try dsimp only); with_reducible exact allR HKc.out RP.out EY.out HKc.out.be.plain)
          clear hK K hH
          have hH := hN
          clear hN
          (try simp only [Act.put, List.setIfInBounds_toArray, List.set_cons_zero, List.set_cons_succ])
          refine wpAnyH_take (i := 6) (v := ?vx67) (by exact op_at rfl) (by kernel_rfl) (by kernel_rfl) (by kernel_rfl) (by exact fun _ _ _ h => h) (Or.inl ⟨by rfl, ?hyx67⟩) hH ?restx67
          case hyx67 => (intro w' hSw; (try dsimp only at hSw); go_simp <;> with_reducible rfl)
          (try simp only [Act.put, List.setIfInBounds_toArray, List.set_cons_zero, List.set_cons_succ])
          refine wpAnyH_take (i := 7) (v := ?vx68) (by exact op_at rfl) (by kernel_rfl) (by kernel_rfl) (by kernel_rfl) (by exact fun _ _ _ h => h) (Or.inl ⟨by rfl, ?hyx68⟩) hH ?restx68
          case hyx68 => (intro w' hSw; (try dsimp only at hSw); go_simp <;> with_reducible rfl)
          (try simp only [Act.put, List.setIfInBounds_toArray, List.set_cons_zero, List.set_cons_succ])
          refine wpAnyH_take (i := 8) (v := ?vx69) (by exact op_at rfl) (by kernel_rfl) (by kernel_rfl) (by kernel_rfl) (by exact fun _ _ _ h => h) (Or.inl ⟨by rfl, ?hyx69⟩) hH ?restx69
          case hyx69 => (intro w' hSw; (try dsimp only at hSw); go_simp <;> with_reducible rfl)
          (try simp only [Act.put, List.setIfInBounds_toArray, List.set_cons_zero, List.set_cons_succ])
          refine wpAnyH_take (i := 9) (v := ?vx70) (by exact op_at rfl) (by kernel_rfl) (by kernel_rfl) (by kernel_rfl) (by exact fun _ _ _ h => h) (Or.inl ⟨by rfl, ?hyx70⟩) hH ?restx70
          case hyx70 => (intro w' hSw; (try dsimp only at hSw); go_simp <;> with_reducible rfl)
          (try simp only [Act.put, List.setIfInBounds_toArray, List.set_cons_zero, List.set_cons_succ])
          refine wpAnyH_ready (rs := [10, 11]) (by kernel_rfl) (by simp) ?_
          refine AllReadyH.cons (op_at rfl) (fun K hK => ?bx5_10) ?cx5_10
          case bx5_10 =>
            go_simp
            obtain ⟨g1, hg1⟩ : ∃ g, wc.heap.size = g := ⟨_, rfl⟩
            have HG10 := Lib.hid (show w.heap.size ≤ g1 from by rw [← hg1]; exact HKc.out.be.size)
            have HKca10 := Lib.hid (HKc.out.add g1 hg1 (.cells #[.int .u32 0, .int .u32 0, .int .u32 0, .int .u32 0, .int .i64 0, .int .i64 0] 30 (0, 0)))
            have HL10 := Lib.hid (show g1 < w0.heap.size ∨ wc.heap.size ≤ g1 from .inr (by rw [← hg1]; exact HM.out.1))
            replace HM := Lib.hid (HM.out.alloc (.cells #[.int .u32 0, .int .u32 0, .int .u32 0, .int .u32 0, .int .i64 0, .int .i64 0] 30 (0, 0)))
            rw [hg1]
            obtain ⟨w10, hw10⟩ : ∃ W, wc.alloc (.cells #[.int .u32 0, .int .u32 0, .int .u32 0, .int .u32 0, .int .i64 0, .int .i64 0] 30 (0, 0)) = W := ⟨_, rfl⟩
            rw [hw10] at HKca10 HM ⊢
            clear hw10 hg1
            refine hK.out _ _ ?hsx71 (fun hN => ?restx71)
            case hsx71 => ((try dsimp only); with_reducible exact allR HKca10.out RP.out EY.out HKca10.out.be.plain)
            clear hK K hH
            have hH := hN
            clear hN
            (try simp only [Act.put, List.setIfInBounds_toArray, List.set_cons_zero, List.set_cons_succ])
            refine wpAnyH_ready (rs := [11]) (by kernel_rfl) (by simp) ?_
            refine AllReadyH.cons (op_at rfl) (fun K hK => ?bx5x10_11) ?cx5x10_11
            case bx5x10_11 =>
              go_simp
              obtain ⟨g2, hg2⟩ : ∃ g, w10.heap.size = g := ⟨_, rfl⟩
              have HG11 := Lib.hid (show w.heap.size ≤ g2 from by rw [← hg2]; exact HKca10.out.be.size)
              have HKca10a11 := Lib.hid (HKca10.out.add g2 hg2 (.cells #[.int .i64 0, .slice none 0 0, .slice none 0 0] 38 (0, 0)))
              have HL11 := Lib.hid (show g2 < w0.heap.size ∨ wc.heap.size ≤ g2 from .inr (by rw [← hg2]; exact HM.out.1))
              replace HM := Lib.hid (HM.out.alloc (.cells #[.int .i64 0, .slice none 0 0, .slice none 0 0] 38 (0, 0)))
              rw [hg2]
              obtain ⟨w11, hw11⟩ : ∃ W, w10.alloc (.cells #[.int .i64 0, .slice none 0 0, .slice none 0 0] 38 (0, 0)) = W := ⟨_, rfl⟩
              rw [hw11] at HKca10a11 HM ⊢
              clear hw11 hg2
              refine hK.out _ _ ?hsx72 (fun hN => ?restx72)
              case hsx72 => ((try dsimp only); with_reducible exact allR HKca10a11.out RP.out EY.out HKca10a11.out.be.plain)
              clear hK K hH
              have hH := hN
              clear hN
              (try simp only [Act.put, List.setIfInBounds_toArray, List.set_cons_zero, List.set_cons_succ])
              have HF := HKca10a11
              refine wpAnyH_ready (rs := [12]) (by kernel_rfl) (by simp) ?_
              refine AllReadyH.cons (op_at rfl) (fun K hK => ?_) AllReadyH.nil
              refine step_store_row rfl 30 _ _ rfl g1 #[.int .u32 t0, .int .u32 t1, .int .u32 t2, .int .u32 t3, .int .i64 th, .int .i64 tn] (by rfl) (by rfl) 30 _ (HF.out.at 3 rfl) infoSgr (by rfl) (by simp [Value.oneCell']) ?_
              have HF1 := Lib.hid (HF.out.putRow 3 rfl (.inr HG10.out) #[.int .u32 t0, .int .u32 t1, .int .u32 t2, .int .u32 t3, .int .i64 th, .int .i64 tn])
              have HM1 := Lib.hid (HM.out.row HL10.out #[.int .u32 t0, .int .u32 t1, .int .u32 t2, .int .u32 t3, .int .i64 th, .int .i64 tn])
              refine hK.out _ _ ?hsx73 (fun hN => ?restx73)
              case hsx73 => ((try dsimp only); with_reducible exact allR HF1.out RP.out EY.out HF1.out.be.plain)
              clear hK K hH HF HM
              have hH := hN
              clear hN
              refine wpAnyH_ready (rs := [13]) (by kernel_rfl) (by simp) ?_
              refine AllReadyH.cons (op_at rfl) (fun K hK => ?_) AllReadyH.nil
              refine step_store_row rfl 38 _ _ rfl g2 #[.int .i64 idx, .slice A1 n1 c1, .slice B1 m1 d1] (by rfl) (by rfl) 38 _ (HF1.out.at 4 rfl) infoSig (by rfl) (by simp [Value.oneCell']) ?_
              have HF2 := Lib.hid (HF1.out.putRow 4 rfl (.inr HG11.out) #[.int .i64 idx, .slice A1 n1 c1, .slice B1 m1 d1])
              have HM2 := Lib.hid (HM1.out.row HL11.out #[.int .i64 idx, .slice A1 n1 c1, .slice B1 m1 d1])
              refine hK.out _ _ ?hsx74 (fun hN => ?restx74)
              case hsx74 => ((try dsimp only); with_reducible exact allR HF2.out RP.out EY.out HF2.out.be.plain)
              clear hK K hH HF1 HM1
              have hH := hN
              clear hN
              simp only [Act.put]
              refine wpAnyH_take (i := 14) (v := ?vx75) (by exact op_at rfl) (by kernel_rfl) (by kernel_rfl) (by kernel_rfl) (by exact fun _ _ _ h => h) (Or.inl ⟨by rfl, ?hyx75⟩) hH ?restx75
              case hyx75 => (intro w' hSw; (try dsimp only at hSw); go_simp <;> with_reducible rfl)
              (try simp only [Act.put, List.setIfInBounds_toArray, List.set_cons_zero, List.set_cons_succ])
              refine wpAnyH_done (by kernel_rfl) ?_ _
              have HV := Lib.hid (HX.out.mid HM2.out)
              (go_wp2_with fail); go_meet; exact ⟨g1, g2, A1, B1, n1, c1, m1, d1, rfl, rfl, rfl, HF2, HV⟩
            exact AllReadyH.nil
          refine AllReadyH.cons (op_at rfl) (fun K hK => ?bx5_11) ?cx5_11
          case bx5_11 =>
            go_simp
            obtain ⟨g2, hg2⟩ : ∃ g, wc.heap.size = g := ⟨_, rfl⟩
            have HG11 := Lib.hid (show w.heap.size ≤ g2 from by rw [← hg2]; exact HKc.out.be.size)
            have HKca11 := Lib.hid (HKc.out.add g2 hg2 (.cells #[.int .i64 0, .slice none 0 0, .slice none 0 0] 38 (0, 0)))
            have HL11 := Lib.hid (show g2 < w0.heap.size ∨ wc.heap.size ≤ g2 from .inr (by rw [← hg2]; exact HM.out.1))
            replace HM := Lib.hid (HM.out.alloc (.cells #[.int .i64 0, .slice none 0 0, .slice none 0 0] 38 (0, 0)))
            rw [hg2]
            obtain ⟨w11, hw11⟩ : ∃ W, wc.alloc (.cells #[.int .i64 0, .slice none 0 0, .slice none 0 0] 38 (0, 0)) = W := ⟨_, rfl⟩
            rw [hw11] at HKca11 HM ⊢
            clear hw11 hg2
            refine hK.out _ _ ?hsx76 (fun hN => ?restx76)
            case hsx76 => ((try dsimp only); with_reducible exact allR HKca11.out RP.out EY.out HKca11.out.be.plain)
            clear hK K hH
            have hH := hN
            clear hN
            (try simp only [Act.put, List.setIfInBounds_toArray, List.set_cons_zero, List.set_cons_succ])
            refine wpAnyH_ready (rs := [10]) (by kernel_rfl) (by simp) ?_
            refine AllReadyH.cons (op_at rfl) (fun K hK => ?bx5x11_10) ?cx5x11_10
            case bx5x11_10 =>
              go_simp
              obtain ⟨g1, hg1⟩ : ∃ g, w11.heap.size = g := ⟨_, rfl⟩
              have HG10 := Lib.hid (show w.heap.size ≤ g1 from by rw [← hg1]; exact HKca11.out.be.size)
              have HKca11a10 := Lib.hid (HKca11.out.add g1 hg1 (.cells #[.int .u32 0, .int .u32 0, .int .u32 0, .int .u32 0, .int .i64 0, .int .i64 0] 30 (0, 0)))
              have HL10 := Lib.hid (show g1 < w0.heap.size ∨ wc.heap.size ≤ g1 from .inr (by rw [← hg1]; exact HM.out.1))
              replace HM := Lib.hid (HM.out.alloc (.cells #[.int .u32 0, .int .u32 0, .int .u32 0, .int .u32 0, .int .i64 0, .int .i64 0] 30 (0, 0)))
              rw [hg1]
              obtain ⟨w10, hw10⟩ : ∃ W, w11.alloc (.cells #[.int .u32 0, .int .u32 0, .int .u32 0, .int .u32 0, .int .i64 0, .int .i64 0] 30 (0, 0)) = W := ⟨_, rfl⟩
              rw [hw10] at HKca11a10 HM ⊢
              clear hw10 hg1
              refine hK.out _ _ ?hsx77 (fun hN => ?restx77)
              case hsx77 => ((try dsimp only); with_reducible exact allR HKca11a10.out RP.out EY.out HKca11a10.out.be.plain)
              clear hK K hH
              have hH := hN
              clear hN
              (try simp only [Act.put, List.setIfInBounds_toArray, List.set_cons_zero, List.set_cons_succ])
              have HF := Lib.hid (HKca11a10.out.swap34)
              refine wpAnyH_ready (rs := [12]) (by kernel_rfl) (by simp) ?_
              refine AllReadyH.cons (op_at rfl) (fun K hK => ?_) AllReadyH.nil
              refine step_store_row rfl 30 _ _ rfl g1 #[.int .u32 t0, .int .u32 t1, .int .u32 t2, .int .u32 t3, .int .i64 th, .int .i64 tn] (by rfl) (by rfl) 30 _ (HF.out.at 3 rfl) infoSgr (by rfl) (by simp [Value.oneCell']) ?_
              have HF1 := Lib.hid (HF.out.putRow 3 rfl (.inr HG10.out) #[.int .u32 t0, .int .u32 t1, .int .u32 t2, .int .u32 t3, .int .i64 th, .int .i64 tn])
              have HM1 := Lib.hid (HM.out.row HL10.out #[.int .u32 t0, .int .u32 t1, .int .u32 t2, .int .u32 t3, .int .i64 th, .int .i64 tn])
              refine hK.out _ _ ?hsx78 (fun hN => ?restx78)
              case hsx78 => ((try dsimp only); with_reducible exact allR HF1.out RP.out EY.out HF1.out.be.plain)
              clear hK K hH HF HM
              have hH := hN
              clear hN
              refine wpAnyH_ready (rs := [13]) (by kernel_rfl) (by simp) ?_
              refine AllReadyH.cons (op_at rfl) (fun K hK => ?_) AllReadyH.nil
              refine step_store_row rfl 38 _ _ rfl g2 #[.int .i64 idx, .slice A1 n1 c1, .slice B1 m1 d1] (by rfl) (by rfl) 38 _ (HF1.out.at 4 rfl) infoSig (by rfl) (by simp [Value.oneCell']) ?_
              have HF2 := Lib.hid (HF1.out.putRow 4 rfl (.inr HG11.out) #[.int .i64 idx, .slice A1 n1 c1, .slice B1 m1 d1])
              have HM2 := Lib.hid (HM1.out.row HL11.out #[.int .i64 idx, .slice A1 n1 c1, .slice B1 m1 d1])
              refine hK.out _ _ ?hsx79 (fun hN => ?restx79)
              case hsx79 => ((try dsimp only); with_reducible exact allR HF2.out RP.out EY.out HF2.out.be.plain)
              clear hK K hH HF1 HM1
              have hH := hN
              clear hN
              simp only [Act.put]
              refine wpAnyH_take (i := 14) (v := ?vx80) (by exact op_at rfl) (by kernel_rfl) (by kernel_rfl) (by kernel_rfl) (by exact fun _ _ _ h => h) (Or.inl ⟨by rfl, ?hyx80⟩) hH ?restx80
              case hyx80 => (intro w' hSw; (try dsimp only at hSw); go_simp <;> with_reducible rfl)
              (try simp only [Act.put, List.setIfInBounds_toArray, List.set_cons_zero, List.set_cons_succ])
              refine wpAnyH_done (by kernel_rfl) ?_ _
              have HV := Lib.hid (HX.out.mid HM2.out)
              (go_wp2_with fail); go_meet; exact ⟨g1, g2, A1, B1, n1, c1, m1, d1, rfl, rfl, rfl, HF2, HV⟩
            exact AllReadyH.nil
          exact AllReadyH.nil
        refine AllReadyH.cons (op_at rfl) (fun K hK => ?b_10) ?c_10
        case b_10 =>
          go_simp
          obtain ⟨g1, hg1⟩ : ∃ g, w0.heap.size = g := ⟨_, rfl⟩
          have HG10 := Lib.hid (show w.heap.size ≤ g1 from by rw [← hg1]; exact HK.out.be.size)
          have HKa10 := Lib.hid (HK.out.add g1 hg1 (.cells #[.int .u32 0, .int .u32 0, .int .u32 0, .int .u32 0, .int .i64 0, .int .i64 0] 30 (0, 0)))
          rw [hg1]
          obtain ⟨w10, hw10⟩ : ∃ W, w0.alloc (.cells #[.int .u32 0, .int .u32 0, .int .u32 0, .int .u32 0, .int .i64 0, .int .i64 0] 30 (0, 0)) = W := ⟨_, rfl⟩
          rw [hw10] at HKa10 ⊢
          clear hw10 hg1
          refine hK.out _ _ ?hsx81 (fun hN => ?restx81)
          case hsx81 => ((try dsimp only); with_reducible exact allR HKa10.out RP.out EY.out HKa10.out.be.plain)
          clear hK K hH
          have hH := hN
          clear hN
          (try simp only [Act.put, List.setIfInBounds_toArray, List.set_cons_zero, List.set_cons_succ])
          refine wpAnyH_ready (rs := [5, 11]) (by kernel_rfl) (by simp) ?_
          refine AllReadyH.cons (op_at rfl) (fun K hK => ?bx10_5) ?cx10_5
          case bx10_5 =>
            go_simp
            go_at_call 19
            (with_reducible refine (HU.out _ (HT.out.oldn HKa10.out)).mono ?_)
            rintro e wc ⟨A1, n1, c1, B1, m1, d1, rfl, hx, hb⟩
            have HX := Lib.hid hx
            have HM := Lib.hid (Md.new w10.heap.size wc)
            have HL10 := Lib.hid (show g1 < w10.heap.size ∨ wc.heap.size ≤ g1 from .inl (HKa10.out.lt 3 rfl))
            have HKa10c := Lib.hid (HKa10.out.after hb)
            clear hb hx
            go_simp
            refine hK.out _ _ ?hsx82 (fun hN => ?restx82)
            case hsx82 => ((try dsimp only); with_reducible exact allR HKa10c.out RP.out EY.out HKa10c.out.be.plain)
            clear hK K hH
            have hH := hN
            clear hN
            (try simp only [Act.put, List.setIfInBounds_toArray, List.set_cons_zero, List.set_cons_succ])
            refine wpAnyH_take (i := 6) (v := ?vx83) (by exact op_at rfl) (by kernel_rfl) (by kernel_rfl) (by kernel_rfl) (by exact fun _ _ _ h => h) (Or.inl ⟨by rfl, ?hyx83⟩) hH ?restx83
            case hyx83 => (intro w' hSw; (try dsimp only at hSw); go_simp <;> with_reducible rfl)
            (try simp only [Act.put, List.setIfInBounds_toArray, List.set_cons_zero, List.set_cons_succ])
            refine wpAnyH_take (i := 7) (v := ?vx84) (by exact op_at rfl) (by kernel_rfl) (by kernel_rfl) (by kernel_rfl) (by exact fun _ _ _ h => h) (Or.inl ⟨by rfl, ?hyx84⟩) hH ?restx84
            case hyx84 => (intro w' hSw; (try dsimp only at hSw); go_simp <;> with_reducible rfl)
            (try simp only [Act.put, List.setIfInBounds_toArray, List.set_cons_zero, List.set_cons_succ])
            refine wpAnyH_take (i := 8) (v := ?vx85) (by exact op_at rfl) (by kernel_rfl) (by kernel_rfl) (by kernel_rfl) (by exact fun _ _ _ h => h) (Or.inl ⟨by rfl, ?hyx85⟩) hH ?restx85
            case hyx85 => (intro w' hSw; (try dsimp only at hSw); go_simp <;> with_reducible rfl)
            (try simp only [Act.put, List.setIfInBounds_toArray, List.set_cons_zero, List.set_cons_succ])
            refine wpAnyH_take (i := 9) (v := ?vx86) (by exact op_at rfl) (by kernel_rfl) (by kernel_rfl) (by kernel_rfl) (by exact fun _ _ _ h => h) (Or.inl ⟨by rfl, ?hyx86⟩) hH ?restx86
            case hyx86 => (intro w' hSw; (try dsimp only at hSw); go_simp <;> with_reducible rfl)
            (try simp only [Act.put, List.setIfInBounds_toArray, List.set_cons_zero, List.set_cons_succ])
            refine wpAnyH_ready (rs := [11]) (by kernel_rfl) (by simp) ?_
            refine AllReadyH.cons (op_at rfl) (fun K hK => ?bx10x5_11) ?cx10x5_11
            case bx10x5_11 =>
              go_simp
              obtain ⟨g2, hg2⟩ : ∃ g, wc.heap.size = g := ⟨_, rfl⟩
              have HG11 := Lib.hid (show w.heap.size ≤ g2 from by rw [← hg2]; exact HKa10c.out.be.size)
              have HKa10ca11 := Lib.hid (HKa10c.out.add g2 hg2 (.cells #[.int .i64 0, .slice none 0 0, .slice none 0 0] 38 (0, 0)))
              have HL11 := Lib.hid (show g2 < w10.heap.size ∨ wc.heap.size ≤ g2 from .inr (by rw [← hg2]; exact HM.out.1))
              replace HM := Lib.hid (HM.out.alloc (.cells #[.int .i64 0, .slice none 0 0, .slice none 0 0] 38 (0, 0)))
              rw [hg2]
              obtain ⟨w11, hw11⟩ : ∃ W, wc.alloc (.cells #[.int .i64 0, .slice none 0 0, .slice none 0 0] 38 (0, 0)) = W := ⟨_, rfl⟩
              rw [hw11] at HKa10ca11 HM ⊢
              clear hw11 hg2
              refine hK.out _ _ ?hsx87 (fun hN => ?restx87)
              case hsx87 => ((try dsimp only); with_reducible exact allR HKa10ca11.out RP.out EY.out HKa10ca11.out.be.plain)
              clear hK K hH
              have hH := hN
              clear hN
              (try simp only [Act.put, List.setIfInBounds_toArray, List.set_cons_zero, List.set_cons_succ])
              have HF := HKa10ca11
              refine wpAnyH_ready (rs := [12]) (by kernel_rfl) (by simp) ?_
              refine AllReadyH.cons (op_at rfl) (fun K hK => ?_) AllReadyH.nil
              refine step_store_row rfl 30 _ _ rfl g1 #[.int .u32 t0, .int .u32 t1, .int .u32 t2, .int .u32 t3, .int .i64 th, .int .i64 tn] (by rfl) (by rfl) 30 _ (HF.out.at 3 rfl) infoSgr (by rfl) (by simp [Value.oneCell']) ?_
              have HF1 := Lib.hid (HF.out.putRow 3 rfl (.inr HG10.out) #[.int .u32 t0, .int .u32 t1, .int .u32 t2, .int .u32 t3, .int .i64 th, .int .i64 tn])
              have HM1 := Lib.hid (HM.out.row HL10.out #[.int .u32 t0, .int .u32 t1, .int .u32 t2, .int .u32 t3, .int .i64 th, .int .i64 tn])
              refine hK.out _ _ ?hsx88 (fun hN => ?restx88)
              case hsx88 => ((try dsimp only); with_reducible exact allR HF1.out RP.out EY.out HF1.out.be.plain)
              clear hK K hH HF HM
              have hH := hN
              clear hN
              refine wpAnyH_ready (rs := [13]) (by kernel_rfl) (by simp) ?_
              refine AllReadyH.cons (op_at rfl) (fun K hK => ?_) AllReadyH.nil
              refine step_store_row rfl 38 _ _ rfl g2 #[.int .i64 idx, .slice A1 n1 c1, .slice B1 m1 d1] (by rfl) (by rfl) 38 _ (HF1.out.at 4 rfl) infoSig (by rfl) (by simp [Value.oneCell']) ?_
              have HF2 := Lib.hid (HF1.out.putRow 4 rfl (.inr HG11.out) #[.int .i64 idx, .slice A1 n1 c1, .slice B1 m1 d1])
              have HM2 := Lib.hid (HM1.out.row HL11.out #[.int .i64 idx, .slice A1 n1 c1, .slice B1 m1 d1])
              refine hK.out _ _ ?hsx89 (fun hN => ?restx89)
              case hsx89 => ((try dsimp only); with_reducible exact allR HF2.out RP.out EY.out HF2.out.be.plain)
              clear hK K hH HF1 HM1
              have hH := hN
              clear hN
              simp only [Act.put]
              refine wpAnyH_take (i := 14) (v := ?vx90) (by exact op_at rfl) (by kernel_rfl) (by kernel_rfl) (by kernel_rfl) (by exact fun _ _ _ h => h) (Or.inl ⟨by rfl, ?hyx90⟩) hH ?restx90
              case hyx90 => (intro w' hSw; (try dsimp only at hSw); go_simp <;> with_reducible rfl)
              (try simp only [Act.put, List.setIfInBounds_toArray, List.set_cons_zero, List.set_cons_succ])
              refine wpAnyH_done (by kernel_rfl) ?_ _
              have HV := Lib.hid (HX.out.mid HM2.out)
              (go_wp2_with fail); go_meet; exact ⟨g1, g2, A1, B1, n1, c1, m1, d1, rfl, rfl, rfl, HF2, HV⟩
            exact AllReadyH.nil
          refine AllReadyH.cons (op_at rfl) (fun K hK => ?bx10_11) ?cx10_11
          case bx10_11 =>
            go_simp
            obtain ⟨g2, hg2⟩ : ∃ g, w10.heap.size = g := ⟨_, rfl⟩
            have HG11 := Lib.hid (show w.heap.size ≤ g2 from by rw [← hg2]; exact HKa10.out.be.size)
            have HKa10a11 := Lib.hid (HKa10.out.add g2 hg2 (.cells #[.int .i64 0, .slice none 0 0, .slice none 0 0] 38 (0, 0)))
            rw [hg2]
            obtain ⟨w11, hw11⟩ : ∃ W, w10.alloc (.cells #[.int .i64 0, .slice none 0 0, .slice none 0 0] 38 (0, 0)) = W := ⟨_, rfl⟩
            rw [hw11] at HKa10a11 ⊢
            clear hw11 hg2
            refine hK.out _ _ ?hsx91 (fun hN => ?restx91)
            case hsx91 => ((try dsimp only); with_reducible exact allR HKa10a11.out RP.out EY.out HKa10a11.out.be.plain)
            clear hK K hH
            have hH := hN
            clear hN
            (try simp only [Act.put, List.setIfInBounds_toArray, List.set_cons_zero, List.set_cons_succ])
            refine wpAnyH_ready (rs := [5]) (by kernel_rfl) (by simp) ?_
            refine AllReadyH.cons (op_at rfl) (fun K hK => ?bx10x11_5) ?cx10x11_5
            case bx10x11_5 =>
              go_simp
              go_at_call 19
              (with_reducible refine (HU.out _ (HT.out.oldn HKa10a11.out)).mono ?_)
              rintro e wc ⟨A1, n1, c1, B1, m1, d1, rfl, hx, hb⟩
              have HX := Lib.hid hx
              have HM := Lib.hid (Md.new w11.heap.size wc)
              have HL10 := Lib.hid (show g1 < w11.heap.size ∨ wc.heap.size ≤ g1 from .inl (HKa10a11.out.lt 3 rfl))
              have HL11 := Lib.hid (show g2 < w11.heap.size ∨ wc.heap.size ≤ g2 from .inl (HKa10a11.out.lt 4 rfl))
              have HKa10a11c := Lib.hid (HKa10a11.out.after hb)
              clear hb hx
              go_simp
              refine hK.out _ _ ?hsx92 (fun hN => ?restx92)
              case hsx92 => ((try dsimp only); with_reducible exact allR HKa10a11c.out RP.out EY.out HKa10a11c.out.be.plain)
              clear hK K hH
              have hH := hN
              clear hN
              (try simp only [Act.put, List.setIfInBounds_toArray, List.set_cons_zero, List.set_cons_succ])
              refine wpAnyH_take (i := 6) (v := ?vx93) (by exact op_at rfl) (by kernel_rfl) (by kernel_rfl) (by kernel_rfl) (by exact fun _ _ _ h => h) (Or.inl ⟨by rfl, ?hyx93⟩) hH ?restx93
              case hyx93 => (intro w' hSw; (try dsimp only at hSw); go_simp <;> with_reducible rfl)
              (try simp only [Act.put, List.setIfInBounds_toArray, List.set_cons_zero, List.set_cons_succ])
              refine wpAnyH_take (i := 7) (v := ?vx94) (by exact op_at rfl) (by kernel_rfl) (by kernel_rfl) (by kernel_rfl) (by exact fun _ _ _ h => h) (Or.inl ⟨by rfl, ?hyx94⟩) hH ?restx94
              case hyx94 => (intro w' hSw; (try dsimp only at hSw); go_simp <;> with_reducible rfl)
              (try simp only [Act.put, List.setIfInBounds_toArray, List.set_cons_zero, List.set_cons_succ])
              refine wpAnyH_take (i := 8) (v := ?vx95) (by exact op_at rfl) (by kernel_rfl) (by kernel_rfl) (by kernel_rfl) (by exact fun _ _ _ h => h) (Or.inl ⟨by rfl, ?hyx95⟩) hH ?restx95
              case hyx95 => (intro w' hSw; (try dsimp only at hSw); go_simp <;> with_reducible rfl)
              (try simp only [Act.put, List.setIfInBounds_toArray, List.set_cons_zero, List.set_cons_succ])
              refine wpAnyH_take (i := 9) (v := ?vx96) (by exact op_at rfl) (by kernel_rfl) (by kernel_rfl) (by kernel_rfl) (by exact fun _ _ _ h => h) (Or.inl ⟨by rfl, ?hyx96⟩) hH ?restx96
              case hyx96 => (intro w' hSw; (try dsimp only at hSw); go_simp <;> with_reducible rfl)
              (try simp only [Act.put, List.setIfInBounds_toArray, List.set_cons_zero, List.set_cons_succ])
              have HF := HKa10a11c
              refine wpAnyH_ready (rs := [12]) (by kernel_rfl) (by simp) ?_
              refine AllReadyH.cons (op_at rfl) (fun K hK => ?_) AllReadyH.nil
              refine step_store_row rfl 30 _ _ rfl g1 #[.int .u32 t0, .int .u32 t1, .int .u32 t2, .int .u32 t3, .int .i64 th, .int .i64 tn] (by rfl) (by rfl) 30 _ (HF.out.at 3 rfl) infoSgr (by rfl) (by simp [Value.oneCell']) ?_
              have HF1 := Lib.hid (HF.out.putRow 3 rfl (.inr HG10.out) #[.int .u32 t0, .int .u32 t1, .int .u32 t2, .int .u32 t3, .int .i64 th, .int .i64 tn])
              have HM1 := Lib.hid (HM.out.row HL10.out #[.int .u32 t0, .int .u32 t1, .int .u32 t2, .int .u32 t3, .int .i64 th, .int .i64 tn])
              refine hK.out _ _ ?hsx97 (fun hN => ?restx97)
              case hsx97 => ((try dsimp only); with_reducible exact allR HF1.out RP.out EY.out HF1.out.be.plain)
              clear hK K hH HF HM
              have hH := hN
              clear hN
              refine wpAnyH_ready (rs := [13]) (by kernel_rfl) (by simp) ?_
              refine AllReadyH.cons (op_at rfl) (fun K hK => ?_) AllReadyH.nil
              refine step_store_row rfl 38 _ _ rfl g2 #[.int .i64 idx, .slice A1 n1 c1, .slice B1 m1 d1] (by rfl) (by rfl) 38 _ (HF1.out.at 4 rfl) infoSig (by rfl) (by simp [Value.oneCell']) ?_
              have HF2 := Lib.hid (HF1.out.putRow 4 rfl (.inr HG11.out) #[.int .i64 idx, .slice A1 n1 c1, .slice B1 m1 d1])
              have HM2 := Lib.hid (HM1.out.row HL11.out #[.int .i64 idx, .slice A1 n1 c1, .slice B1 m1 d1])
              refine hK.out _ _ ?hsx98 (fun hN => ?restx98)
              case hsx98 => ((try dsimp only); with_reducible exact allR HF2.out RP.out EY.out HF2.out.be.plain)
              clear hK K hH HF1 HM1
              have hH := hN
              clear hN
              simp only [Act.put]
              refine wpAnyH_take (i := 14) (v := ?vx99) (by exact op_at rfl) (by kernel_rfl) (by kernel_rfl) (by kernel_rfl) (by exact fun _ _ _ h => h) (Or.inl ⟨by rfl, ?hyx99⟩) hH ?restx99
              case hyx99 => (intro w' hSw; (try dsimp only at hSw); go_simp <;> with_reducible rfl)
              (try simp only [Act.put, List.setIfInBounds_toArray, List.set_cons_zero, List.set_cons_succ])
              refine wpAnyH_done (by kernel_rfl) ?_ _
              have HV := Lib.hid (HX.out.mid HM2.out)
              (go_wp2_with fail); go_meet; exact ⟨g1, g2, A1, B1, n1, c1, m1, d1, rfl, rfl, rfl, HF2, HV⟩
            exact AllReadyH.nil
          exact AllReadyH.nil
        refine AllReadyH.cons (op_at rfl) (fun K hK => ?b_11) ?c_11
        case b_11 =>
          go_simp
          obtain ⟨g2, hg2⟩ : ∃ g, w0.heap.size = g := ⟨_, rfl⟩
          have HG11 := Lib.hid (show w.heap.size ≤ g2 from by rw [← hg2]; exact HK.out.be.size)
          have HKa11 := Lib.hid (HK.out.add g2 hg2 (.cells #[.int .i64 0, .slice none 0 0, .slice none 0 0] 38 (0, 0)))
          rw [hg2]
          obtain ⟨w11, hw11⟩ : ∃ W, w0.alloc (.cells #[.int .i64 0, .slice none 0 0, .slice none 0 0] 38 (0, 0)) = W := ⟨_, rfl⟩
          rw [hw11] at HKa11 ⊢
          clear hw11 hg2
          refine hK.out _ _ ?hsx100 (fun hN => ?restx100)
          case hsx100 => ((try dsimp only); with_reducible exact allR HKa11.out RP.out EY.out HKa11.out.be.plain)
          clear hK K hH
          have hH := hN
          clear hN
          (try simp only [Act.put, List.setIfInBounds_toArray, List.set_cons_zero, List.set_cons_succ])
          refine wpAnyH_ready (rs := [5, 10]) (by kernel_rfl) (by simp) ?_
          refine AllReadyH.cons (op_at rfl) (fun K hK => ?bx11_5) ?cx11_5
          case bx11_5 =>
            go_simp
            go_at_call 19
            (with_reducible refine (HU.out _ (HT.out.oldn HKa11.out)).mono ?_)
            rintro e wc ⟨A1, n1, c1, B1, m1, d1, rfl, hx, hb⟩
            have HX := Lib.hid hx
            have HM := Lib.hid (Md.new w11.heap.size wc)
            have HL11 := Lib.hid (show g2 < w11.heap.size ∨ wc.heap.size ≤ g2 from .inl (HKa11.out.lt 3 rfl))
            have HKa11c := Lib.hid (HKa11.out.after hb)
            clear hb hx
            go_simp
            refine hK.out _ _ ?hsx101 (fun hN => ?restx101)
            case hsx101 => ((try dsimp only); with_reducible exact allR HKa11c.out RP.out EY.out HKa11c.out.be.plain)
            clear hK K hH
            have hH := hN
            clear hN
            (try simp only [Act.put, List.setIfInBounds_toArray, List.set_cons_zero, List.set_cons_succ])
            refine wpAnyH_take (i := 6) (v := ?vx102) (by exact op_at rfl) (by kernel_rfl) (by kernel_rfl) (by kernel_rfl) (by exact fun _ _ _ h => h) (Or.inl ⟨by rfl, ?hyx102⟩) hH ?restx102
            case hyx102 => (intro w' hSw; (try dsimp only at hSw); go_simp <;> with_reducible rfl)
            (try simp only [Act.put, List.setIfInBounds_toArray, List.set_cons_zero, List.set_cons_succ])
            refine wpAnyH_take (i := 7) (v := ?vx103) (by exact op_at rfl) (by kernel_rfl) (by kernel_rfl) (by kernel_rfl) (by exact fun _ _ _ h => h) (Or.inl ⟨by rfl, ?hyx103⟩) hH ?restx103
            case hyx103 => (intro w' hSw; (try dsimp only at hSw); go_simp <;> with_reducible rfl)
            (try simp only [Act.put, List.setIfInBounds_toArray, List.set_cons_zero, List.set_cons_succ])
            refine wpAnyH_take (i := 8) (v := ?vx104) (by exact op_at rfl) (by kernel_rfl) (by kernel_rfl) (by kernel_rfl) (by exact fun _ _ _ h => h) (Or.inl ⟨by rfl, ?hyx104⟩) hH ?restx104
            case hyx104 => (intro w' hSw; (try dsimp only at hSw); go_simp <;> with_reducible rfl)
            (try simp only [Act.put, List.setIfInBounds_toArray, List.set_cons_zero, List.set_cons_succ])
            refine wpAnyH_take (i := 9) (v := ?vx105) (by exact op_at rfl) (by kernel_rfl) (by kernel_rfl) (by kernel_rfl) (by exact fun _ _ _ h => h) (Or.inl ⟨by rfl, ?hyx105⟩) hH ?restx105
            case hyx105 => (intro w' hSw; (try dsimp only at hSw); go_simp <;> with_reducible rfl)
            (try simp only [Act.put, List.setIfInBounds_toArray, List.set_cons_zero, List.set_cons_succ])
            refine wpAnyH_ready (rs := [10]) (by kernel_rfl) (by simp) ?_
            refine AllReadyH.cons (op_at rfl) (fun K hK => ?bx11x5_10) ?cx11x5_10
            case bx11x5_10 =>
              go_simp
              obtain ⟨g1, hg1⟩ : ∃ g, wc.heap.size = g := ⟨_, rfl⟩
              have HG10 := Lib.hid (show w.heap.size ≤ g1 from by rw [← hg1]; exact HKa11c.out.be.size)
              have HKa11ca10 := Lib.hid (HKa11c.out.add g1 hg1 (.cells #[.int .u32 0, .int .u32 0, .int .u32 0, .int .u32 0, .int .i64 0, .int .i64 0] 30 (0, 0)))
              have HL10 := Lib.hid (show g1 < w11.heap.size ∨ wc.heap.size ≤ g1 from .inr (by rw [← hg1]; exact HM.out.1))
              replace HM := Lib.hid (HM.out.alloc (.cells #[.int .u32 0, .int .u32 0, .int .u32 0, .int .u32 0, .int .i64 0, .int .i64 0] 30 (0, 0)))
              rw [hg1]
              obtain ⟨w10, hw10⟩ : ∃ W, wc.alloc (.cells #[.int .u32 0, .int .u32 0, .int .u32 0, .int .u32 0, .int .i64 0, .int .i64 0] 30 (0, 0)) = W := ⟨_, rfl⟩
              rw [hw10] at HKa11ca10 HM ⊢
              clear hw10 hg1
              refine hK.out _ _ ?hsx106 (fun hN => ?restx106)
              case hsx106 => ((try dsimp only); with_reducible exact allR HKa11ca10.out RP.out EY.out HKa11ca10.out.be.plain)
              clear hK K hH
              have hH := hN
              clear hN
              (try simp only [Act.put, List.setIfInBounds_toArray, List.set_cons_zero, List.set_cons_succ])
              have HF := Lib.hid (HKa11ca10.out.swap34)
              refine wpAnyH_ready (rs := [12]) (by kernel_rfl) (by simp) ?_
              refine AllReadyH.cons (op_at rfl) (fun K hK => ?_) AllReadyH.nil
              refine step_store_row rfl 30 _ _ rfl g1 #[.int .u32 t0, .int .u32 t1, .int .u32 t2, .int .u32 t3, .int .i64 th, .int .i64 tn] (by rfl) (by rfl) 30 _ (HF.out.at 3 rfl) infoSgr (by rfl) (by simp [Value.oneCell']) ?_
              have HF1 := Lib.hid (HF.out.putRow 3 rfl (.inr HG10.out) #[.int .u32 t0, .int .u32 t1, .int .u32 t2, .int .u32 t3, .int .i64 th, .int .i64 tn])
              have HM1 := Lib.hid (HM.out.row HL10.out #[.int .u32 t0, .int .u32 t1, .int .u32 t2, .int .u32 t3, .int .i64 th, .int .i64 tn])
              refine hK.out _ _ ?hsx107 (fun hN => ?restx107)
              case hsx107 => ((try dsimp only); with_reducible exact allR HF1.out RP.out EY.out HF1.out.be.plain)
              clear hK K hH HF HM
              have hH := hN
              clear hN
              refine wpAnyH_ready (rs := [13]) (by kernel_rfl) (by simp) ?_
              refine AllReadyH.cons (op_at rfl) (fun K hK => ?_) AllReadyH.nil
              refine step_store_row rfl 38 _ _ rfl g2 #[.int .i64 idx, .slice A1 n1 c1, .slice B1 m1 d1] (by rfl) (by rfl) 38 _ (HF1.out.at 4 rfl) infoSig (by rfl) (by simp [Value.oneCell']) ?_
              have HF2 := Lib.hid (HF1.out.putRow 4 rfl (.inr HG11.out) #[.int .i64 idx, .slice A1 n1 c1, .slice B1 m1 d1])
              have HM2 := Lib.hid (HM1.out.row HL11.out #[.int .i64 idx, .slice A1 n1 c1, .slice B1 m1 d1])
              refine hK.out _ _ ?hsx108 (fun hN => ?restx108)
              case hsx108 => ((try dsimp only); with_reducible exact allR HF2.out RP.out EY.out HF2.out.be.plain)
              clear hK K hH HF1 HM1
              have hH := hN
              clear hN
              simp only [Act.put]
              refine wpAnyH_take (i := 14) (v := ?vx109) (by exact op_at rfl) (by kernel_rfl) (by kernel_rfl) (by kernel_rfl) (by exact fun _ _ _ h => h) (Or.inl ⟨by rfl, ?hyx109⟩) hH ?restx109
              case hyx109 => (intro w' hSw; (try dsimp only at hSw); go_simp <;> with_reducible rfl)
              (try simp only [Act.put, List.setIfInBounds_toArray, List.set_cons_zero, List.set_cons_succ])
              refine wpAnyH_done (by kernel_rfl) ?_ _
              have HV := Lib.hid (HX.out.mid HM2.out)
              (go_wp2_with fail); go_meet; exact ⟨g1, g2, A1, B1, n1, c1, m1, d1, rfl, rfl, rfl, HF2, HV⟩
            exact AllReadyH.nil
          refine AllReadyH.cons (op_at rfl) (fun K hK => ?bx11_10) ?cx11_10
          case bx11_10 =>
            go_simp
            obtain ⟨g1, hg1⟩ : ∃ g, w11.heap.size = g := ⟨_, rfl⟩
            have HG10 := Lib.hid (show w.heap.size ≤ g1 from by rw [← hg1]; exact HKa11.out.be.size)
            have HKa11a10 := Lib.hid (HKa11.out.add g1 hg1 (.cells #[.int .u32 0, .int .u32 0, .int .u32 0, .int .u32 0, .int .i64 0, .int .i64 0] 30 (0, 0)))
            rw [hg1]
            obtain ⟨w10, hw10⟩ : ∃ W, w11.alloc (.cells #[.int .u32 0, .int .u32 0, .int .u32 0, .int .u32 0, .int .i64 0, .int .i64 0] 30 (0, 0)) = W := ⟨_, rfl⟩
            rw [hw10] at HKa11a10 ⊢
            clear hw10 hg1
            refine hK.out _ _ ?hsx110 (fun hN => ?restx110)
            case hsx110 => ((try dsimp only); with_reducible exact allR HKa11a10.out RP.out EY.out HKa11a10.out.be.plain)
            clear hK K hH
            have hH := hN
            clear hN
            (try simp only [Act.put, List.setIfInBounds_toArray, List.set_cons_zero, List.set_cons_succ])
            refine wpAnyH_ready (rs := [5]) (by kernel_rfl) (by simp) ?_
            refine AllReadyH.cons (op_at rfl) (fun K hK => ?bx11x10_5) ?cx11x10_5
            case bx11x10_5 =>
              go_simp
              go_at_call 19
              (with_reducible refine (HU.out _ (HT.out.oldn HKa11a10.out)).mono ?_)
              rintro e wc ⟨A1, n1, c1, B1, m1, d1, rfl, hx, hb⟩
              have HX := Lib.hid hx
              have HM := Lib.hid (Md.new w10.heap.size wc)
              have HL11 := Lib.hid (show g2 < w10.heap.size ∨ wc.heap.size ≤ g2 from .inl (HKa11a10.out.lt 3 rfl))
              have HL10 := Lib.hid (show g1 < w10.heap.size ∨ wc.heap.size ≤ g1 from .inl (HKa11a10.out.lt 4 rfl))
              have HKa11a10c := Lib.hid (HKa11a10.out.after hb)
              clear hb hx
              go_simp
              refine hK.out _ _ ?hsx111 (fun hN => ?restx111)
              case hsx111 => ((try dsimp only); with_reducible exact allR HKa11a10c.out RP.out EY.out HKa11a10c.out.be.plain)
              clear hK K hH
              have hH := hN
              clear hN
              (try simp only [Act.put, List.setIfInBounds_toArray, List.set_cons_zero, List.set_cons_succ])
              refine wpAnyH_take (i := 6) (v := ?vx112) (by exact op_at rfl) (by kernel_rfl) (by kernel_rfl) (by kernel_rfl) (by exact fun _ _ _ h => h) (Or.inl ⟨by rfl, ?hyx112⟩) hH ?restx112
              case hyx112 => (intro w' hSw; (try dsimp only at hSw); go_simp <;> with_reducible rfl)
              (try simp only [Act.put, List.setIfInBounds_toArray, List.set_cons_zero, List.set_cons_succ])
              refine wpAnyH_take (i := 7) (v := ?vx113) (by exact op_at rfl) (by kernel_rfl) (by kernel_rfl) (by kernel_rfl) (by exact fun _ _ _ h => h) (Or.inl ⟨by rfl, ?hyx113⟩) hH ?restx113
              case hyx113 => (intro w' hSw; (try dsimp only at hSw); go_simp <;> with_reducible rfl)
              (try simp only [Act.put, List.setIfInBounds_toArray, List.set_cons_zero, List.set_cons_succ])
              refine wpAnyH_take (i := 8) (v := ?vx114) (by exact op_at rfl) (by kernel_rfl) (by kernel_rfl) (by kernel_rfl) (by exact fun _ _ _ h => h) (Or.inl ⟨by rfl, ?hyx114⟩) hH ?restx114
              case hyx114 => (intro w' hSw; (try dsimp only at hSw); go_simp <;> with_reducible rfl)
              (try simp only [Act.put, List.setIfInBounds_toArray, List.set_cons_zero, List.set_cons_succ])
              refine wpAnyH_take (i := 9) (v := ?vx115) (by exact op_at rfl) (by kernel_rfl) (by kernel_rfl) (by kernel_rfl) (by exact fun _ _ _ h => h) (Or.inl ⟨by rfl, ?hyx115⟩) hH ?restx115
              case hyx115 => (intro w' hSw; (try dsimp only at hSw); go_simp <;> with_reducible rfl)
              (try simp only [Act.put, List.setIfInBounds_toArray, List.set_cons_zero, List.set_cons_succ])
              have HF := Lib.hid (HKa11a10c.out.swap34)
              refine wpAnyH_ready (rs := [12]) (by kernel_rfl) (by simp) ?_
              refine AllReadyH.cons (op_at rfl) (fun K hK => ?_) AllReadyH.nil
              refine step_store_row rfl 30 _ _ rfl g1 #[.int .u32 t0, .int .u32 t1, .int .u32 t2, .int .u32 t3, .int .i64 th, .int .i64 tn] (by rfl) (by rfl) 30 _ (HF.out.at 3 rfl) infoSgr (by rfl) (by simp [Value.oneCell']) ?_
              have HF1 := Lib.hid (HF.out.putRow 3 rfl (.inr HG10.out) #[.int .u32 t0, .int .u32 t1, .int .u32 t2, .int .u32 t3, .int .i64 th, .int .i64 tn])
              have HM1 := Lib.hid (HM.out.row HL10.out #[.int .u32 t0, .int .u32 t1, .int .u32 t2, .int .u32 t3, .int .i64 th, .int .i64 tn])
              refine hK.out _ _ ?hsx116 (fun hN => ?restx116)
              case hsx116 => ((try dsimp only); with_reducible exact allR HF1.out RP.out EY.out HF1.out.be.plain)
              clear hK K hH HF HM
              have hH := hN
              clear hN
              refine wpAnyH_ready (rs := [13]) (by kernel_rfl) (by simp) ?_
              refine AllReadyH.cons (op_at rfl) (fun K hK => ?_) AllReadyH.nil
              refine step_store_row rfl 38 _ _ rfl g2 #[.int .i64 idx, .slice A1 n1 c1, .slice B1 m1 d1] (by rfl) (by rfl) 38 _ (HF1.out.at 4 rfl) infoSig (by rfl) (by simp [Value.oneCell']) ?_
              have HF2 := Lib.hid (HF1.out.putRow 4 rfl (.inr HG11.out) #[.int .i64 idx, .slice A1 n1 c1, .slice B1 m1 d1])
              have HM2 := Lib.hid (HM1.out.row HL11.out #[.int .i64 idx, .slice A1 n1 c1, .slice B1 m1 d1])
              refine hK.out _ _ ?hsx117 (fun hN => ?restx117)
              case hsx117 => ((try dsimp only); with_reducible exact allR HF2.out RP.out EY.out HF2.out.be.plain)
              clear hK K hH HF1 HM1
              have hH := hN
              clear hN
              simp only [Act.put]
              refine wpAnyH_take (i := 14) (v := ?vx118) (by exact op_at rfl) (by kernel_rfl) (by kernel_rfl) (by kernel_rfl) (by exact fun _ _ _ h => h) (Or.inl ⟨by rfl, ?hyx118⟩) hH ?restx118
              case hyx118 => (intro w' hSw; (try dsimp only at hSw); go_simp <;> with_reducible rfl)
              (try simp only [Act.put, List.setIfInBounds_toArray, List.set_cons_zero, List.set_cons_succ])
              refine wpAnyH_done (by kernel_rfl) ?_ _
              have HV := Lib.hid (HX.out.mid HM2.out)
              (go_wp2_with fail); go_meet; exact ⟨g1, g2, A1, B1, n1, c1, m1, d1, rfl, rfl, rfl, HF2, HV⟩
            exact AllReadyH.nil
          exact AllReadyH.nil
        exact AllReadyH.nil
      case rest =>
        obtain ⟨g1, g2, A1, B1, n1, c1, m1, d1, rfl, rfl, rfl, HK, HV⟩ := hcut
        clear f0 f1 f2 f3 a0 a1 a2 a3 a4 a5 b0 b1 b2 b3 b4 b5
        rcases HCC.out with ⟨hm, rfl, rfl, rfl, rfl, rfl, rfl, rfl, rfl, rfl, rfl⟩ | ⟨hm, rfl, rfl, rfl, rfl, rfl, rfl, rfl⟩
        · obtain rfl : j = s := (hs1 hm).symm
          clear HCC HU
          have hcc := check6 (msg := [y0, y1, y2, y3]) (pub := [p0, p1, p2, p3]) (idx := (j : Int)) (one := sgn (ksd [x0, x1, x2, x3] j) [y0, y1, y2, y3]) (path := mway (kys [x0, x1, x2, x3] 1) j) (v := .agg #[.int .i64 (j : Int), .slice A1 n1 c1, .slice B1 m1 d1])
          rw [show khd [p0, p1, p2, p3] [y0, y1, y2, y3] (j : Int) (sgn (ksd [x0, x1, x2, x3] j) [y0, y1, y2, y3]) (mway (kys [x0, x1, x2, x3] 1) j) = true from by rw [← EP.out]; exact khd_sig (by omega) (by omega)] at hcc
          have CK := Lib.hid (fun W hv ht => hcc W (by rw [← EP.out]; exact OP.out) OY.out hv ht)
          clear hcc
          generalize sgn (ksd [x0, x1, x2, x3] j) [y0, y1, y2, y3] = one at *
          generalize mway (kys [x0, x1, x2, x3] 1) j = path at *
          rw [ag4, ag4] at CK
          have k0 : ¬ (2 : Int) ≤ (j : Int) := by omega
          have hgd := (RP.out.oldn HK.out)
          obtain ⟨l0, l1, l2, _⟩ := cells3 (HK.out.at 4 rfl)
          go_upto_region 21 with fail
          have HK1 := Lib.hid HK.out.drew
          have HV1 := Lib.hid (HV.out.kept (Below.refl _ _).drew)
          clear l0 l1 l2 hgd
          go_region_held3 (fun W => W.cell? ⟨q11, 0, none⟩ = some (.int .u32 p0) ∧ W.cell? ⟨q11, 1, none⟩ = some (.int .u32 p1) ∧ W.cell? ⟨q11, 2, none⟩ = some (.int .u32 p2) ∧ W.cell? ⟨q11, 3, none⟩ = some (.int .u32 p3) ∧ W.cell? ⟨g2, 0, none⟩ = some (.int .i64 (j : Int)) ∧ W.cell? ⟨g2, 1, none⟩ = some (.slice A1 n1 c1) ∧ W.cell? ⟨g2, 2, none⟩ = some (.slice B1 m1 d1) ∧ W.cell? ⟨bl, ol + j * 4, none⟩ = some (.int .u32 y0) ∧ W.cell? ⟨bl, ol + j * 4 + 1, none⟩ = some (.int .u32 y1) ∧ W.cell? ⟨bl, ol + j * 4 + 2, none⟩ = some (.int .u32 y2) ∧ W.cell? ⟨bl, ol + j * 4 + 3, none⟩ = some (.int .u32 y3))
            (with_reducible exact allQR HK1.out RP.out EY.out HK1.out.be.plain)
            (first
              | (go_at_call 17; (with_reducible refine (CK.out _ HV1.out (HT.out.oldn HK1.out)).mono ?_); rintro e w' ⟨rfl, hb⟩; replace HK1 := Lib.hid (HK1.out.after hb); clear hb))
          all_goals
            obtain ⟨a0, a1, a2, a3, a4, a5, _⟩ := cells6 (HK1.out.at 3 rfl)
            obtain ⟨_, _, _, _, _, _, b0, b1, b2, b3, b4, b5⟩ := cells6 (HK1.out.at 1 rfl)
            have HK2 := Lib.hid ((HK1.out.put6 1 rfl (.inr (Nat.le_of_lt HQ9L.out)) (.int .u32 x0) (.int .u32 x1) (.int .u32 x2) (.int .u32 x3) (.int .i64 1) (.int .i64 ((j : Int) + 1))).first 3)
            go_wp2_with fail
            go_roundw
            case rel => exact ⟨j + 1, j + 1, by omega, by go_num, fun _ => rfl, fun _ => by omega, by rw [show ((j + 1 : Nat) : Int) = (j : Int) + 1 from by push_cast; rfl]; exact HK2⟩
            case measure => simp [intOf]; omega
        · obtain ⟨a0, a1, a2, a3, a4, a5, _⟩ := cells6 (HK.out.at 3 rfl)
          have k0 : (2 : Int) ≤ (j : Int) := by omega
          go_wp2_with fail
          go_roundw
          case rel => exact ⟨j + 1, s, by omega, by go_num, fun _ => by omega, fun _ => hs2 hm, Lib.hid (HK.out.first 3)⟩
          case measure => simp [intOf]; omega
    · obtain rfl : j = n := by omega
      have u1 : ¬ (j : Int) < (j : Int) := by omega
      go_wp2_with fail
      go_ret
      exact ⟨rfl, HK.out.be.plain⟩
theorem walk {x0 x1 x2 x3 : Int} {b : Bool} {A : Option Addr} {n cap : Nat} {l : Dl} (o0 : Ok4 [x0, x1, x2, x3]) (hl : l.length = n) (hc : n ≤ cap) (w : World) (hd : Dd w A l) (ht : Tabs w) :
    Calls Tryd.prog 7 #[ag [x0, x1, x2, x3], .bool b, .slice A n cap] w fun e w' => e = .returned (.bool true) ∧ Below w.heap.size w w' := by
  by_cases h4 : n ≤ 4
  · cases b
    · exact walk_low o0 hl hc h4 w hd ht
    · exact walk_high o0 hl hc h4 w hd ht
  · exact walk_long o0 hl hc (by omega) w hd ht

set_option maxRecDepth 100000 in
theorem contract (H : Type) (enc : TypeId × Value → H) (W : World) (base : Nat) (args : Array Value) (ds gs : List (DataW H)) (before : List MemPlace)
    (hval : ∀ (j : Nat) t v, Tryd.f7.params[j]? = some t → args[j]? = some v → Value.okWide Tryd.prog W .any base t v)
    (hW : DataW.Whole enc Tryd.prog Tryd.f7.params.toList Rows.keysRowSpec.vars false W args.toList ds gs before) (hL : laidMetH Tryd.prog Rows.keysRowRow.laid W) :
    Calls Tryd.prog 7 args W fun e W' => ∃ v, e = .returned v ∧ Rows.keysRowSpec.post enc Tryd.prog Tryd.f7 false true false false W args v W' := by
  have hW' := hW
  obtain ⟨p, q, hA0, hV, rfl, hfz, hnd⟩ := hW
  have hA : DataW.TrodAll enc Tryd.prog W 0 (fun _ => true) true Tryd.f7.params.toList args.toList ds p := hA0
  rw [Tryd.params7] at hA hval
  obtain ⟨v0, vs0, d0, ds0, p0, q0, hargs, rfl, rfl, h0, r0⟩ := trodAll_cons hA
  obtain ⟨v1, vs1, d1, ds1, p1, q1, rfl, rfl, rfl, h1, r1⟩ := trodAll_cons r0
  obtain ⟨v2, vs2, d2, ds2, p2, q2, rfl, rfl, rfl, h2, r2⟩ := trodAll_cons r1
  obtain ⟨rfl, rfl, rfl⟩ := trodAll_nil r2
  obtain rfl : args = #[v0, v1, v2] := by cases args; simp_all
  obtain ⟨rfl, rfl⟩ := trodVars_none hV
  have lt0 : ∀ x ∈ p0, x.block < W.heap.size := by obtain ⟨m, hm⟩ := h0; exact DataW.trod_lt m _ _ _ hm
  obtain ⟨x00, x01, x02, x03, rfl, o0⟩ := open_dig (hval 0 24 v0 rfl rfl) h0
  have lt1 : ∀ x ∈ p1, x.block < W.heap.size := by obtain ⟨m, hm⟩ := h1; exact DataW.trod_lt m _ _ _ hm
  have k1 := h1
  obtain ⟨a1, rfl, _, _⟩ := open_bool Tryd.underlying4 (hval 1 4 v1 rfl rfl) k1
  have lt2 : ∀ x ∈ p2, x.block < W.heap.size := by obtain ⟨m, hm⟩ := h2; exact DataW.trod_lt m _ _ _ hm
  obtain ⟨A2, n2, c2, l2, rfl, hl2, hc2, hm2, hd2⟩ := open_lst (hval 2 35 v2 rfl rfl) h2
  clear hA0
  refine (walk o0 hl2 hc2 W hd2 (tabs_of hL)).mono fun e W' ⟨he, bel⟩ => ?_
  subst he
  exact ⟨_, rfl, _, _, _, [], _, [], hW', trodAll_mk1 (shut_bool Tryd.underlying4 _), (trodAll_cons_mk (Below.trod laidOut (by kernel_rfl) (of_decide_eq_true (by kernel_rfl)) h0 bel lt0) (trodAll_cons_mk (Below.trod laidOut (by kernel_rfl) (of_decide_eq_true (by kernel_rfl)) h1 bel lt1) (trodAll_cons_mk (Below.trod laidOut (by kernel_rfl) (of_decide_eq_true (by kernel_rfl)) h2 bel lt2) trodAll_mk0))), rfl, bel.frame _, fun h => by cases h⟩

theorem laid_met (os : Os) : laidMet Tryd.prog Rows.keysRowRow.laid ((laidWorld os).forCall (fun _ _ => 0) ⟨#[], #[.agg #[.int .u32 0, .int .u32 0, .int .u32 0, .int .u32 0], .bool false, .slice none 0 0], []⟩).memory :=
  laidMet_of_run' 8 (by kernel_rfl) (by kernel_rfl)
theorem reads (os : Os) {H : Type} (enc : TypeId × Value → H) : ∃ places, DataW.whole enc Tryd.prog ((laidWorld os).forCall (fun _ _ => 0) ⟨#[], #[.agg #[.int .u32 0, .int .u32 0, .int .u32 0, .int .u32 0], .bool false, .slice none 0 0], []⟩).memory Tryd.f7.params.toList Rows.keysRowSpec.vars false (#[.agg #[.int .u32 0, .int .u32 0, .int .u32 0, .int .u32 0], .bool false, .slice none 0 0] : Array Value).toList 8 = some ([.agg [.lit (.int .u32 0), .lit (.int .u32 0), .lit (.int .u32 0), .lit (.int .u32 0)], .lit (.bool false), .nil], [], places) :=
  ⟨[], by kernel_rfl⟩

set_option maxRecDepth 100000 in
theorem lifted (os : Os) (started : os.Started) (H : Type) (enc : TypeId × Value → H) (F : Stop.Interp) :
    ReturnsInHanded {} Tryd.checked os 7 .any ((OpenSpec.ofChange Rows.keysRowSpec).preRow enc Tryd.prog Tryd.f7 Rows.keysRowRow.domain false Rows.keysRowRow.laid) (((OpenSpec.ofChange Rows.keysRowSpec).at F).post enc Tryd.prog Tryd.f7 false true false false) := by
  obtain ⟨places, hx⟩ := reads os enc
  refine returnsInHanded_of_row (C := Tryd.checked) (s := OpenSpec.ofChange Rows.keysRowSpec) own started (by kernel_rfl) Tryd.func7
    (witness_row_at (enc := enc) (C := Tryd.checked) false (laidWorld os) #[.agg #[.int .u32 0, .int .u32 0, .int .u32 0, .int .u32 0], .bool false, .slice none 0 0] rfl (by kernel_rfl) (by kernel_rfl) (by kernel_rfl)
      (OpenSpec.preRow_of_cond 8 hx (by kernel_rfl) (fun k hk => by cases hk) (by kernel_rfl) (laid_met os))) ?_
  intro W base args ds gs before hval hW _ _ _ hL _ _
  exact contract H enc W base args ds gs before hval hW hL

theorem said : Rows.KeysRowSaid :=
  OpenClaim.holds_of_cond 7 Tryd.f7 rfl rfl rfl rfl rfl rfl rfl ⟨rfl, rfl, rfl, rfl, rfl⟩ rfl rfl rfl rfl rfl (by kernel_rfl) Tryd.func7 (by kernel_rfl)
    (of_decide_eq_true (by kernel_rfl)) (by unfold Func.isWrapper; first | (rw [if_pos (by decide +kernel)]; kernel_rfl) | (rw [if_neg (by decide +kernel)]; exact ⟨rfl, rfl⟩))
    (fun os started H enc _ F => by rw [OpenClaim.pre_eq_preRow]; exact lifted os started H enc F)

theorem plain (f : FuncId) (fn : Func) (hf : Tryd.pinned.checked.prog.funcNamed "seedcorn/seedcornlaw06.KeysRow" = some f) (hfn : Tryd.pinned.checked.prog.funcs[f]? = some fn) :
    false = Tryd.pinned.checked.prog.looks [] ∧ ∀ (j : Nat) t, fn.params[j]? = some t → Tryd.pinned.checked.prog.wantsStandIn t = false := by
  obtain rfl : f = 7 := Option.some.inj ((show Tryd.prog.funcNamed "seedcorn/seedcornlaw06.KeysRow" = some 7 by kernel_rfl).symm.trans hf) |>.symm
  obtain rfl : fn = Tryd.f7 := (Option.some.inj (Tryd.func7.symm.trans hfn)).symm
  refine ⟨by kernel_rfl, fun j t ht => ?_⟩
  rw [Tryd.params7] at ht
  have hm := Array.mem_of_getElem? ht
  have hm' : t = 24 ∨ t = 4 ∨ t = 35 := by simpa using hm
  rcases hm' with rfl | rfl | rfl
  · exact (show Tryd.prog.wantsStandIn 24 = false by kernel_rfl)
  · exact (show Tryd.prog.wantsStandIn 4 = false by kernel_rfl)
  · exact (show Tryd.prog.wantsStandIn 35 = false by kernel_rfl)

/-- The card. -/
theorem card : Rows.KeysRowCardSaid :=
  Claim7.holds_tied_plain_at .later [] _ _ _ _ said (fun _ h => by cases h) (by kernel_rfl) (fun _ h => by cases h) keysRow_row_tie rfl ⟨rfl, rfl⟩ (by kernel_rfl) rfl plain (by kernel_rfl)
end Go.Proofs.YtfbefenagnlnfaaDoor.keysRow
