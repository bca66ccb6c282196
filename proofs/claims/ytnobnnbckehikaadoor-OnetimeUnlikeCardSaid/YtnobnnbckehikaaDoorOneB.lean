/- A message's numbers: the contracts of onetime's appendDigits and Steps. -/
import Derived.Test.YtnobnnbckehikaaDoorOneA
import Derived.OwnWalk
set_option linter.unusedVariables false
namespace Go.Proofs.YtnobnnbckehikaaDoor
open Go.RowKit

theorem infoI : (Tryd.prog.info? 3).map (fun i => (i.zero, i.size, i.bytes)) = some (some (.int .i64 0), 1, 8) := by kernel_rfl
/-- The cells of a list of numbers. -/
def ics (l : List Nat) : List Value := l.map fun (n : Nat) => Value.int .i64 (n : Int)
theorem ics_length (l : List Nat) : (ics l).length = l.length := by simp [ics]
theorem ics_append (a b : List Nat) : ics (a ++ b) = ics a ++ ics b := by simp [ics]
theorem ics_one (l : List Nat) : ∀ u ∈ ics l, u.oneCell' = true := by
  intro u hu
  obtain ⟨n, _, rfl⟩ := List.mem_map.1 hu
  rfl
theorem and15 (x : Int) (h0 : 0 ≤ x) (h1 : x < 4294967296) : bits .and .u32 x 15 = x % 16 := by
  rw [and_u32 x 15 h0 h1 (by omega) (by omega)]
  have := Nat.and_two_pow_sub_one_eq_mod x.toNat 4
  rw [show (15 : Int).toNat = 2 ^ 4 - 1 by decide, this]
  omega
theorem pow4 (p : Nat) : 2 ^ (4 * p) = 16 ^ p := by rw [Nat.pow_mul]
theorem digit_val {W p : Nat} (h : W < 4294967296) : bits .and .u32 ((W : Int) / 2 ^ (4 * p)) 15 = ((W / 16 ^ p % 16 : Nat) : Int) := by
  have e : (W : Int) / 2 ^ (4 * p) = ((W / 16 ^ p : Nat) : Int) := by rw [← pow4]; push_cast; rfl
  have hle : W / 16 ^ p ≤ W := Nat.div_le_self _ _
  rw [e]
  obtain ⟨q, hq⟩ : ∃ q, W / 16 ^ p = q := ⟨_, rfl⟩
  rw [hq] at hle ⊢
  rw [and15 _ (by omega) (by omega)]
  omega
set_option maxHeartbeats 1000000 in
theorem digits_any (B n W : Nat) (xs : List Nat) (v : Value) (w : World) (hW : W < 4294967296) (hn : n ≤ 8) (hx : xs.length ≤ 100) (ho : w.ownsRow B 3 1 v xs.length (ics xs)) (hB : B ≤ w.heap.size) :
    Calls Tryd.prog 26 #[v, .int .u32 (W : Int), .int .i64 (n : Int)] w fun e w' => ∃ v', e = .returned v' ∧ w'.ownsRow B 3 1 v' (xs.length + n) (ics (xs ++ hxs n W)) ∧ Below B w w' := by
  obtain ⟨i0, hi, hz0, hz1, hz2⟩ := info_parts infoI
  have HO0 := Lib.hid ho
  clear ho
  go_enter Tryd.func26, Tryd.ntmps26
  go_wp2_with fail
  go_loopw [0, 7] (fun out si wr => ∃ (k : Nat) (ys : List Nat), k ≤ n ∧ si = .int .i64 ((k : Int) - 1) ∧ Hid (ys ++ hxs k W = xs ++ hxs n W) ∧ Hid (wr.ownsRow B 3 1 out ys.length (ics ys)) ∧ Hid (Below B w wr)) (fun _ si _ => (intOf si + 1).toNat)
  case atStart => exact ⟨n, xs, Nat.le_refl _, by go_num, rfl, HO0, Below.refl _ _⟩
  case round =>
    obtain ⟨k, ys, hk, rfl, HX, HO, HB⟩ := hrel
    by_cases hlt : 0 < k
    · obtain ⟨p, rfl⟩ : ∃ p, k = p + 1 := ⟨k - 1, by omega⟩
      have hX := HX.out
      rw [hxs] at hX
      have hd := digit_val (p := p) hW
      have hd16 : W / 16 ^ p % 16 < 16 := Nat.mod_lt _ (by omega)
      obtain ⟨d, e⟩ : ∃ d, W / 16 ^ p % 16 = d := ⟨_, rfl⟩
      rw [e] at hX hd hd16
      have HX2 := Lib.hid hX
      have hl : ys.length + (p + 1) = xs.length + n := by
        have := congrArg List.length HX.out
        simpa [hxs_length] using this
      have j0 : (0 : Int) ≤ (d : Int) := by omega
      have j1 : (d : Int) < 16 := by omega
      clear hX e
      go_wp2_with (at_builtin; refine wpList_append_own _ rfl _ _ 27 rfl B 3 i0 (.int .i64 0) 1 8 Tryd.underlying27 hi hz0 hz1 hz2 rfl (by decide) _ _ _ rfl (HO.out.alloc _) ⟨wr.heap.size, 0, none⟩ 1 1 (ics [d]) rfl rfl (one_new _ _ _) (ics_one _) ?c3 ?c4 ?c5 ?_)
      case c3 => unfold maxLen; omega
      case c4 => omega
      case c5 => have := HB.out.size; simp; omega
      intro v' w1 hown1 hgrow1 _
      have HO2 := Lib.hid hown1
      have HB2 := Lib.hid ((HB.out.alloc (by have := HB.out.size; omega) _).grown hgrow1 (by simp; have := HB.out.size; omega) (fun k hk => (HO.out.lt k hk).1))
      clear hown1 hgrow1
      go_wp2
      go_roundw
      case rel => exact ⟨p, ys ++ [d], by omega, by go_num, (List.append_assoc _ _ _).trans HX2.out, by rw [ics_append, List.length_append]; exact HO2, HB2⟩
      case measure => first | (simp [intOf]; done) | (simp [intOf]; omega)
    · obtain rfl : k = 0 := by omega
      have HX2 := HX.out
      rw [hxs, List.append_nil] at HX2
      have hl : ys.length = xs.length + n := by rw [HX2, List.length_append, hxs_length]
      go_wp2_with fail
      go_ret
      exact ⟨_, rfl, by rw [← HX2, ← hl]; exact HO.out, HB.out⟩
theorem own_shape1 {w : World} {B e n : Nat} {v : Value} {xs : List Value} (h : w.ownsRow B e 1 v n xs) (hn : 0 < n) :
    ∃ g cap, v = .slice (some ⟨g, 0, none⟩) n cap ∧ B ≤ g ∧ n ≤ cap ∧ cap ≤ maxLen := by
  obtain ⟨_, h | ⟨g, cap, cur, hv, hg, _, h3, h4, _⟩⟩ := h
  · omega
  · exact ⟨g, cap, hv, hg, by omega, by omega⟩
theorem digits_code {B m r n W : Nat} {z : Int} {xs : List Nat} {v : Value} (w : World) (hz : z = (n : Int)) (hW : W < 4294967296) (hn : n ≤ 8) (hx : xs.length = m) (hr : m + n = r) (hm : m ≤ 100) (hp : 0 < n) (ho : w.ownsRow B 3 1 v m (ics xs)) (hB : B ≤ w.heap.size) :
    Calls Tryd.prog 26 #[v, .int .u32 (W : Int), .int .i64 z] w fun e w' => ∃ g cap, e = .returned (.slice (some ⟨g, 0, none⟩) r cap) ∧ w'.ownsRow B 3 1 (.slice (some ⟨g, 0, none⟩) r cap) r (ics (xs ++ hxs n W)) ∧ Below B w w' := by
  subst hx hr hz
  refine (digits_any B n W xs v w hW hn hm ho hB).mono ?_
  rintro e w' ⟨v', rfl, h, hb⟩
  obtain ⟨g, cap, rfl, _⟩ := own_shape1 h (by omega)
  exact ⟨g, cap, rfl, h, hb⟩
/-- A row that reads as a list of numbers. -/
structure IRow (w : World) (g : Nat) (l : List Nat) : Prop where
  lt : g < w.heap.size
  at_ : ∀ j, j < l.length → w.cell? ⟨g, j, none⟩ = some (.int .i64 ((l.getD j 0 : Nat) : Int))
  ty : ∃ cur, w.heap[g]? = some (.cells cur 3 (0, 0))
theorem IRow.block {w w' : World} {g : Nat} {l : List Nat} (h : IRow w g l) (hb : w'.heap[g]? = w.heap[g]?) (hs : w.heap.size ≤ w'.heap.size) : IRow w' g l :=
  ⟨Nat.lt_of_lt_of_le h.lt hs, fun j hj => by rw [World.cell?_of_block (w := w) hb]; exact h.at_ j hj, by rw [hb]; exact h.ty⟩
theorem IRow.kept {w w' : World} {g : Nat} {l : List Nat} (h : IRow w g l) (hb : Below w.heap.size w w') : IRow w' g l := h.block (hb.block _ h.lt) hb.size
theorem IRow.drew {w : World} {g : Nat} {l : List Nat} (h : IRow w g l) : IRow w.drew g l := ⟨h.lt, h.at_, h.ty⟩
theorem IRow.drewN {w : World} {g : Nat} {l : List Nat} (h : IRow w g l) (n : Nat) : IRow (w.drewN n) g l := ⟨h.lt, h.at_, h.ty⟩
theorem IRow.set {w : World} {g : Nat} {l : List Nat} (h : IRow w g l) {p : Addr} (hp : p.block ≠ g) (v : Value) : IRow (w.setCell p v) g l :=
  h.block (heap_setCell_other _ _ _ _ hp.symm) (by simp)
theorem own_ty {w : World} {B e s n : Nat} {v : Value} {xs : List Value} (h : w.ownsRow B e s v n xs) : ∀ k, v.ownBlock = some k → ∃ cur, w.heap[k]? = some (.cells cur e (0, 0)) := by
  intro k hk
  rcases h.2 with ⟨rfl, _⟩ | ⟨g, cap, cur, rfl, hb, hg, _⟩
  · simp [Value.ownBlock] at hk
  · simp [Value.ownBlock] at hk
    subst hk
    exact ⟨cur, hg⟩
theorem IRow.grow {w w' : World} {g : Nat} {l : List Nat} (h : IRow w g l) {row : Option Nat} (hg : w.grownBy w' row) {e : Nat} (he : e ≠ 3) (hr : ∀ k, row = some k → ∃ cur, w.heap[k]? = some (.cells cur e (0, 0))) : IRow w' g l := by
  refine h.block (hg.block _ h.lt (fun e1 => ?_)) hg.size
  obtain ⟨c1, h1⟩ := hr g e1.symm
  obtain ⟨c2, h2⟩ := h.ty
  rw [h1] at h2
  simp at h2
  exact he h2.2
theorem IRow.own {w : World} {B n cap g : Nat} {l : List Nat} (h : w.ownsRow B 3 1 (.slice (some ⟨g, 0, none⟩) n cap) n (ics l)) : IRow w g l :=
  ⟨(h.lt g rfl).2, fun j hj => by
    have := h.cells (g := g) rfl j (.int .i64 ((l.getD j 0 : Nat) : Int)) (by
      unfold ics
      rw [List.getElem?_map, List.getElem?_eq_getElem hj, List.getD_eq_getElem?_getD, List.getElem?_eq_getElem hj]
      rfl)
    have e : (⟨g, 0, none⟩ : Addr).add j = ⟨g, j, none⟩ := by
      unfold Addr.add
      split
      · simp_all
      · simp
    rw [← e]; exact this, own_ty h g rfl⟩
theorem lft_take {l : List Nat} {j : Nat} (h : j < l.length) : lft (l.take (j + 1)) = lft (l.take j) + (15 - l.getD j 0) := by
  rw [List.take_succ_eq_append_getElem h, lft_append, lft_cons, List.getD_eq_getElem?_getD, List.getElem?_eq_getElem h]
  simp [lft]
/-- What Steps gives. -/
def StpE (w : World) (l : List Nat) (e : Ending) (w' : World) : Prop := ∃ g cap, e = .returned (.slice (some ⟨g, 0, none⟩) 35 cap) ∧ 35 ≤ cap ∧ cap ≤ maxLen ∧ IRow w' g l ∧ w.heap.size ≤ g ∧ Below w.heap.size w w'
theorem idxD (a b c d : Int) : (∀ w : World, (Instr.index 24 (.agg #[.int .u32 a, .int .u32 b, .int .u32 c, .int .u32 d]) (.int .i64 0)).run Tryd.prog w = .ok (.int .u32 a) w) ∧ (∀ w : World, (Instr.index 24 (.agg #[.int .u32 a, .int .u32 b, .int .u32 c, .int .u32 d]) (.int .i64 1)).run Tryd.prog w = .ok (.int .u32 b) w) ∧
    (∀ w : World, (Instr.index 24 (.agg #[.int .u32 a, .int .u32 b, .int .u32 c, .int .u32 d]) (.int .i64 2)).run Tryd.prog w = .ok (.int .u32 c) w) ∧ (∀ w : World, (Instr.index 24 (.agg #[.int .u32 a, .int .u32 b, .int .u32 c, .int .u32 d]) (.int .i64 3)).run Tryd.prog w = .ok (.int .u32 d) w) :=
  ⟨fun _ => by kernel_rfl, fun _ => by kernel_rfl, fun _ => by kernel_rfl, fun _ => by kernel_rfl⟩
set_option maxRecDepth 100000 in
set_option maxHeartbeats 2000000 in
theorem steps_code (m : Ws) (w : World) (hm : Ok4 m) :
    Calls Tryd.prog 12 #[ag m] w (StpE w (nms m)) := by
  have hlen := bse_length hm
  have hlt := bse_lt m
  have hms := lft_msg hm
  obtain ⟨l, hl⟩ : ∃ l, bse m = l := ⟨_, rfl⟩
  unfold nms
  rw [hl] at hlen hlt hms ⊢
  obtain ⟨a, b, c, d, rfl, ha, hb, hc, hd⟩ := ok4 hm
  rw [bse4] at hl
  obtain ⟨A, rfl⟩ := Int.eq_ofNat_of_zero_le ha.1
  obtain ⟨B, rfl⟩ := Int.eq_ofNat_of_zero_le hb.1
  obtain ⟨C, rfl⟩ := Int.eq_ofNat_of_zero_le hc.1
  obtain ⟨D, rfl⟩ := Int.eq_ofNat_of_zero_le hd.1
  simp only [Int.toNat_natCast] at hl
  have C0 := Lib.hid (fun (v : Value) (w' : World) => digits_code (z := 8) (B := w.heap.size) (m := 0) (r := 8) (n := 8) (W := A) (xs := []) (v := v) w' rfl (by have := ha.2; omega) (by omega) rfl (by omega) (by omega) (by omega))
  have C1 := Lib.hid (fun (v : Value) (w' : World) => digits_code (z := 8) (B := w.heap.size) (m := 8) (r := 16) (n := 8) (W := B) (xs := hxs 8 A) (v := v) w' rfl (by have := hb.2; omega) (by omega) (by simp [hxs_length]) (by omega) (by omega) (by omega))
  have C2 := Lib.hid (fun (v : Value) (w' : World) => digits_code (z := 8) (B := w.heap.size) (m := 16) (r := 24) (n := 8) (W := C) (xs := hxs 8 A ++ hxs 8 B) (v := v) w' rfl (by have := hc.2; omega) (by omega) (by simp [hxs_length]) (by omega) (by omega) (by omega))
  have C3 := Lib.hid (fun (v : Value) (w' : World) => digits_code (z := 8) (B := w.heap.size) (m := 24) (r := 32) (n := 8) (W := D) (xs := hxs 8 A ++ hxs 8 B ++ hxs 8 C) (v := v) w' rfl (by have := hd.2; omega) (by omega) (by simp [hxs_length]) (by omega) (by omega) (by omega))
  have C4 := Lib.hid (fun (v : Value) (w' : World) => digits_code (z := 3) (B := w.heap.size) (m := 32) (r := 35) (n := 3) (W := lft l) (xs := l) (v := v) w' rfl (by omega) (by omega) hlen (by omega) (by omega) (by omega))
  have HL : Hid (hxs 8 A ++ hxs 8 B ++ hxs 8 C ++ hxs 8 D = l) := Lib.hid (by rw [← hl]; simp)
  obtain ⟨j0, j1, j2, j3⟩ := idxD (A : Int) B C D
  obtain ⟨i0, hi, hz0, hz1, hz2⟩ := info_parts infoI
  rw [ag4]
  clear ha hb hc hd hl hm
  go_enter Tryd.func12, Tryd.ntmps12
  go_wp2_with (at_make; refine wpList_make_own _ rfl _ _ 27 rfl w.heap.size 3 i0 (.int .i64 0) 1 Tryd.underlying27 hi hz0 hz1 _ _ _ 35 rfl rfl (by omega) ?b2 ?b3 ?b4 ?_)
  case b2 => rw [hz2]; omega
  case b3 => unfold maxLen; omega
  case b4 => simp
  intro w0 hown0 hgrow0
  have HO := Lib.hid hown0
  have HB := Lib.hid (((Below.refl w.heap.size w).alloc (Nat.le_refl _) _).grown hgrow0 (by simp) (fun k hk => by cases hk))
  have hbk := ((Below.refl (w.heap.size + 1) (w.alloc (.cells #[.int .u32 (A : Int), .int .u32 (B : Int), .int .u32 (C : Int), .int .u32 (D : Int)] 24))).grown hgrow0 (by simp) (fun k hk => by cases hk)).block w.heap.size (by omega)
  rw [heap_alloc_new] at hbk
  obtain ⟨m0, m1, m2, m3, _⟩ := cells4 hbk
  clear hown0 hgrow0 hbk
  go_wp2_with fail
  refine wp_loop_rounds 5 ?_
  rw [rounds_succ]
  go_wp2_with fail
  refine (C0.out _ _ HO.out HB.out.size).mono ?_
  rintro e w1 ⟨g1, c1, rfl, ho, hb⟩
  replace HO := Lib.hid ho
  replace HB := Lib.hid (HB.out.trans hb)
  clear ho hb m0 m1 m2 m3
  go_wp2_with fail
  rw [rounds_succ]
  go_wp2_with fail
  refine (C1.out _ _ HO.out HB.out.size).mono ?_
  rintro e w2 ⟨g2, c2, rfl, ho, hb⟩
  replace HO := Lib.hid ho
  replace HB := Lib.hid (HB.out.trans hb)
  clear ho hb
  go_wp2_with fail
  rw [rounds_succ]
  go_wp2_with fail
  refine (C2.out _ _ HO.out HB.out.size).mono ?_
  rintro e w3 ⟨g3, c3, rfl, ho, hb⟩
  replace HO := Lib.hid ho
  replace HB := Lib.hid (HB.out.trans hb)
  clear ho hb
  go_wp2_with fail
  rw [rounds_succ]
  go_wp2_with fail
  refine (C3.out _ _ HO.out HB.out.size).mono ?_
  rintro e w4 ⟨g4, c4, rfl, ho, hb⟩
  replace HO := Lib.hid ho
  replace HB := Lib.hid (HB.out.trans hb)
  clear ho hb
  go_wp2_with fail
  rw [rounds_succ]
  go_wp2_with fail
  rw [HL.out] at HO
  have HLT := Lib.hid hlt
  clear C0 C1 C2 C3 HL j0 j1 j2 j3 hlt
  have HR := Lib.hid (IRow.own HO.out)
  go_loopw [6, 20] (fun left si wr => ∃ j : Nat, j ≤ 32 ∧ si = .int .i64 (j : Int) ∧ left = .int .i64 ((lft (l.take j) : Nat) : Int) ∧ wr = w4) (fun _ si _ => 32 - (intOf si).toNat)
  case atStart => exact ⟨0, by omega, rfl, rfl, rfl⟩
  case round =>
    obtain ⟨j, hj, rfl, rfl, rfl⟩ := hrel
    by_cases hjl : j < 32
    · have j0 : (0 : Int) ≤ (j : Int) := by omega
      have j1 : (j : Int) < 32 := by omega
      have hc := HR.out.at_ j (by omega)
      have ht := lft_take (l := l) (j := j) (by omega)
      have hd : l.getD j 0 < 16 := by
        rw [List.getD_eq_getElem?_getD, List.getElem?_eq_getElem (by omega)]
        exact HLT.out _ (List.getElem_mem _)
      have hle : lft (l.take (j + 1)) ≤ 480 := by
        have := lft_le (l.take (j + 1))
        rw [List.length_take] at this
        omega
      obtain ⟨d, e⟩ : ∃ d, l.getD j 0 = d := ⟨_, rfl⟩
      obtain ⟨s, es⟩ : ∃ s, lft (l.take j) = s := ⟨_, rfl⟩
      obtain ⟨s2, es2⟩ : ∃ s2, lft (l.take (j + 1)) = s2 := ⟨_, rfl⟩
      rw [e] at hc hd ht
      rw [es, es2] at ht
      rw [es2] at hle
      rw [es]
      have ES2 := Lib.hid es2
      clear e es es2
      go_wp2_with fail
      go_roundw
      case rel => exact ⟨j + 1, by omega, by go_num, by rw [ES2.out]; go_num, trivial⟩
      case measure => simp [intOf]; omega
    · obtain rfl : j = 32 := by omega
      rw [List.take_of_length_le (by omega)]
      have i0 : (0 : Int) ≤ ((lft l : Nat) : Int) := by omega
      have i1 : ((lft l : Nat) : Int) < 4294967296 := by omega
      go_wp2_with fail
      refine (C4.out _ _ HO.out HB.out.size).mono ?_
      rintro e w5 ⟨g5, c5, rfl, ho, hb⟩
      have HO5 := Lib.hid ho
      have HB5 := Lib.hid (HB.out.trans hb)
      clear ho hb
      go_wp2_with fail
      go_ret
      obtain ⟨g, cap, hv, hg, h1, h2⟩ := own_shape1 HO5.out (by omega)
      injection hv with hv _ hcap
      injection hv with hv
      injection hv with hv
      subst hv hcap
      exact ⟨_, _, rfl, h1, h2, IRow.own HO5.out, hg, HB5.out⟩
end Go.Proofs.YtnobnnbckehikaaDoor
