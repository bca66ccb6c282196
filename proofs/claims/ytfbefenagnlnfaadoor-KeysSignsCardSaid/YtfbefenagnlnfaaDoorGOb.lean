/- A message's numbers: the contracts of onetime's appendDigits and Steps. Words the other way round; a digest's bytes and text. Texts as lists of bytes. The reference of layer 2: the contracts of its sign and its Text. The reference of layer 3: the contracts of its Text and Parse. A message's numbers: the contract of the reference's Steps. A signature: the contract of onetime's Sign. A signature: the contract of the reference's Sign. The public key that values reach: the contract of onetime's Reach. The public key that values reach: the contract of the reference's Reach. -/
import Derived.Test.YtfbefenagnlnfaaDoorGOa
import Derived.OwnWalk
import Derived.Test.YtfbefenagnlnfaaDoorPackM
import Derived.Test.YtfbefenagnlnfaaDoorDigM
import Derived.Test.YtfbefenagnlnfaaDoorHexM
import Derived.Test.YtfbefenagnlnfaaDoorRet
import Derived.Laws.BytesArg
import Derived.Laws.IdiomStrings
import Derived.Deep.AppendLies
import Derived.Deep.RegionHeld3
import Derived.Test.YtfbefenagnlnfaaDoorDigQ
import Derived.Test.YtfbefenagnlnfaaDoorGet4
set_option linter.unusedVariables false
namespace Go.Proofs.YtfbefenagnlnfaaDoor
open Go.RowKit

theorem infoI : (Tryd.prog.info? 3).map (fun i => (i.zero, i.size, i.bytes)) = some (some (.int .i64 0), 1, 8) := by kernel_rfl
/-- The cells of a list of numbers. -/
def ics (l : List Nat) : List Value := l.map fun (n : Nat) => Value.int .i64 (n : Int)
theorem ics_length (l : List Nat) : (ics l).length = l.length := by simp [ics]
theorem ics_append (a b : List Nat) : ics (a ++ b) = ics a ++ ics b := by simp [ics]
theorem ics_one (l : List Nat) : ∀ u ∈ ics l, u.oneCell' = true := by
  intro u hu
  obtain ⟨n, _, rfl⟩ := List.mem_map.1 hu
  rfl
theorem and15 (x : Int) (h0 : 0 ≤ x) (h1 : x < 4294967296) : bits .and .u32 x 15 = x % 16 := by
  rw [and_u32 x 15 h0 h1 (by omega) (by omega)]
  have := Nat.and_two_pow_sub_one_eq_mod x.toNat 4
  rw [show (15 : Int).toNat = 2 ^ 4 - 1 by decide, this]
  omega
theorem pow4 (p : Nat) : 2 ^ (4 * p) = 16 ^ p := by rw [Nat.pow_mul]
theorem digit_val {W p : Nat} (h : W < 4294967296) : bits .and .u32 ((W : Int) / 2 ^ (4 * p)) 15 = ((W / 16 ^ p % 16 : Nat) : Int) := by
  have e : (W : Int) / 2 ^ (4 * p) = ((W / 16 ^ p : Nat) : Int) := by rw [← pow4]; push_cast; rfl
  have hle : W / 16 ^ p ≤ W := Nat.div_le_self _ _
  rw [e]
  obtain ⟨q, hq⟩ : ∃ q, W / 16 ^ p = q := ⟨_, rfl⟩
  rw [hq] at hle ⊢
  rw [and15 _ (by omega) (by omega)]
  omega
set_option maxHeartbeats 1000000 in
theorem digits_any (B n W : Nat) (xs : List Nat) (v : Value) (w : World) (hW : W < 4294967296) (hn : n ≤ 8) (hx : xs.length ≤ 100) (ho : w.ownsRow B 3 1 v xs.length (ics xs)) (hB : B ≤ w.heap.size) :
    Calls Tryd.prog 69 #[v, .int .u32 (W : Int), .int .i64 (n : Int)] w fun e w' => ∃ v', e = .returned v' ∧ w'.ownsRow B 3 1 v' (xs.length + n) (ics (xs ++ hxs n W)) ∧ Below B w w' := by
  obtain ⟨i0, hi, hz0, hz1, hz2⟩ := info_parts infoI
  have HO0 := Lib.hid ho
  clear ho
  go_enter Tryd.func69, Tryd.ntmps69
  go_wp2_with fail
  go_loopw [0, 7] (fun out si wr => ∃ (k : Nat) (ys : List Nat), k ≤ n ∧ si = .int .i64 ((k : Int) - 1) ∧ Hid (ys ++ hxs k W = xs ++ hxs n W) ∧ Hid (wr.ownsRow B 3 1 out ys.length (ics ys)) ∧ Hid (Below B w wr)) (fun _ si _ => (intOf si + 1).toNat)
  case atStart => exact ⟨n, xs, Nat.le_refl _, by go_num, rfl, HO0, Below.refl _ _⟩
  case round =>
    obtain ⟨k, ys, hk, rfl, HX, HO, HB⟩ := hrel
    by_cases hlt : 0 < k
    · obtain ⟨p, rfl⟩ : ∃ p, k = p + 1 := ⟨k - 1, by omega⟩
      have hX := HX.out
      rw [hxs] at hX
      have hd := digit_val (p := p) hW
      have hd16 : W / 16 ^ p % 16 < 16 := Nat.mod_lt _ (by omega)
      obtain ⟨d, e⟩ : ∃ d, W / 16 ^ p % 16 = d := ⟨_, rfl⟩
      rw [e] at hX hd hd16
      have HX2 := Lib.hid hX
      have hl : ys.length + (p + 1) = xs.length + n := by
        have := congrArg List.length HX.out
        simpa [hxs_length] using this
      have j0 : (0 : Int) ≤ (d : Int) := by omega
      have j1 : (d : Int) < 16 := by omega
      clear hX e
      go_wp2_with (at_builtin; refine wpList_append_own _ rfl _ _ 70 rfl B 3 i0 (.int .i64 0) 1 8 Tryd.underlying70 hi hz0 hz1 hz2 rfl (by decide) _ _ _ rfl (HO.out.alloc _) ⟨wr.heap.size, 0, none⟩ 1 1 (ics [d]) rfl rfl (one_new _ _ _) (ics_one _) ?c3 ?c4 ?c5 ?_)
      case c3 => unfold maxLen; omega
      case c4 => omega
      case c5 => have := HB.out.size; simp; omega
      intro v' w1 hown1 hgrow1 _
      have HO2 := Lib.hid hown1
      have HB2 := Lib.hid ((HB.out.alloc (by have := HB.out.size; omega) _).grown hgrow1 (by simp; have := HB.out.size; omega) (fun k hk => (HO.out.lt k hk).1))
      clear hown1 hgrow1
      go_wp2
      go_roundw
      case rel => exact ⟨p, ys ++ [d], by omega, by go_num, (List.append_assoc _ _ _).trans HX2.out, by rw [ics_append, List.length_append]; exact HO2, HB2⟩
      case measure => first | (simp [intOf]; done) | (simp [intOf]; omega)
    · obtain rfl : k = 0 := by omega
      have HX2 := HX.out
      rw [hxs, List.append_nil] at HX2
      have hl : ys.length = xs.length + n := by rw [HX2, List.length_append, hxs_length]
      go_wp2_with fail
      go_ret
      exact ⟨_, rfl, by rw [← HX2, ← hl]; exact HO.out, HB.out⟩
theorem own_shape1 {w : World} {B e n : Nat} {v : Value} {xs : List Value} (h : w.ownsRow B e 1 v n xs) (hn : 0 < n) :
    ∃ g cap, v = .slice (some ⟨g, 0, none⟩) n cap ∧ B ≤ g ∧ n ≤ cap ∧ cap ≤ maxLen := by
  obtain ⟨_, h | ⟨g, cap, cur, hv, hg, _, h3, h4, _⟩⟩ := h
  · omega
  · exact ⟨g, cap, hv, hg, by omega, by omega⟩
theorem digits_code {B m r n W : Nat} {z : Int} {xs : List Nat} {v : Value} (w : World) (hz : z = (n : Int)) (hW : W < 4294967296) (hn : n ≤ 8) (hx : xs.length = m) (hr : m + n = r) (hm : m ≤ 100) (hp : 0 < n) (ho : w.ownsRow B 3 1 v m (ics xs)) (hB : B ≤ w.heap.size) :
    Calls Tryd.prog 69 #[v, .int .u32 (W : Int), .int .i64 z] w fun e w' => ∃ g cap, e = .returned (.slice (some ⟨g, 0, none⟩) r cap) ∧ w'.ownsRow B 3 1 (.slice (some ⟨g, 0, none⟩) r cap) r (ics (xs ++ hxs n W)) ∧ Below B w w' := by
  subst hx hr hz
  refine (digits_any B n W xs v w hW hn hm ho hB).mono ?_
  rintro e w' ⟨v', rfl, h, hb⟩
  obtain ⟨g, cap, rfl, _⟩ := own_shape1 h (by omega)
  exact ⟨g, cap, rfl, h, hb⟩
/-- A row that reads as a list of numbers. -/
structure IRow (w : World) (g : Nat) (l : List Nat) : Prop where
  lt : g < w.heap.size
  at_ : ∀ j, j < l.length → w.cell? ⟨g, j, none⟩ = some (.int .i64 ((l.getD j 0 : Nat) : Int))
  ty : ∃ cur, w.heap[g]? = some (.cells cur 3 (0, 0))
theorem IRow.block {w w' : World} {g : Nat} {l : List Nat} (h : IRow w g l) (hb : w'.heap[g]? = w.heap[g]?) (hs : w.heap.size ≤ w'.heap.size) : IRow w' g l :=
  ⟨Nat.lt_of_lt_of_le h.lt hs, fun j hj => by rw [World.cell?_of_block (w := w) hb]; exact h.at_ j hj, by rw [hb]; exact h.ty⟩
theorem IRow.kept {w w' : World} {g : Nat} {l : List Nat} (h : IRow w g l) (hb : Below w.heap.size w w') : IRow w' g l := h.block (hb.block _ h.lt) hb.size
theorem IRow.drew {w : World} {g : Nat} {l : List Nat} (h : IRow w g l) : IRow w.drew g l := ⟨h.lt, h.at_, h.ty⟩
theorem IRow.drewN {w : World} {g : Nat} {l : List Nat} (h : IRow w g l) (n : Nat) : IRow (w.drewN n) g l := ⟨h.lt, h.at_, h.ty⟩
theorem IRow.set {w : World} {g : Nat} {l : List Nat} (h : IRow w g l) {p : Addr} (hp : p.block ≠ g) (v : Value) : IRow (w.setCell p v) g l :=
  h.block (heap_setCell_other _ _ _ _ hp.symm) (by simp)
theorem own_ty {w : World} {B e s n : Nat} {v : Value} {xs : List Value} (h : w.ownsRow B e s v n xs) : ∀ k, v.ownBlock = some k → ∃ cur, w.heap[k]? = some (.cells cur e (0, 0)) := by
  intro k hk
  rcases h.2 with ⟨rfl, _⟩ | ⟨g, cap, cur, rfl, hb, hg, _⟩
  · simp [Value.ownBlock] at hk
  · simp [Value.ownBlock] at hk
    subst hk
    exact ⟨cur, hg⟩
theorem IRow.grow {w w' : World} {g : Nat} {l : List Nat} (h : IRow w g l) {row : Option Nat} (hg : w.grownBy w' row) {e : Nat} (he : e ≠ 3) (hr : ∀ k, row = some k → ∃ cur, w.heap[k]? = some (.cells cur e (0, 0))) : IRow w' g l := by
  refine h.block (hg.block _ h.lt (fun e1 => ?_)) hg.size
  obtain ⟨c1, h1⟩ := hr g e1.symm
  obtain ⟨c2, h2⟩ := h.ty
  rw [h1] at h2
  simp at h2
  exact he h2.2
theorem IRow.own {w : World} {B n cap g : Nat} {l : List Nat} (h : w.ownsRow B 3 1 (.slice (some ⟨g, 0, none⟩) n cap) n (ics l)) : IRow w g l :=
  ⟨(h.lt g rfl).2, fun j hj => by
    have := h.cells (g := g) rfl j (.int .i64 ((l.getD j 0 : Nat) : Int)) (by
      unfold ics
      rw [List.getElem?_map, List.getElem?_eq_getElem hj, List.getD_eq_getElem?_getD, List.getElem?_eq_getElem hj]
      rfl)
    have e : (⟨g, 0, none⟩ : Addr).add j = ⟨g, j, none⟩ := by
      unfold Addr.add
      split
      · simp_all
      · simp
    rw [← e]; exact this, own_ty h g rfl⟩
theorem lft_take {l : List Nat} {j : Nat} (h : j < l.length) : lft (l.take (j + 1)) = lft (l.take j) + (15 - l.getD j 0) := by
  rw [List.take_succ_eq_append_getElem h, lft_append, lft_cons, List.getD_eq_getElem?_getD, List.getElem?_eq_getElem h]
  simp [lft]
/-- What Steps gives. -/
def StpE (w : World) (l : List Nat) (e : Ending) (w' : World) : Prop := ∃ g cap, e = .returned (.slice (some ⟨g, 0, none⟩) 35 cap) ∧ 35 ≤ cap ∧ cap ≤ maxLen ∧ IRow w' g l ∧ w.heap.size ≤ g ∧ Below w.heap.size w w'
theorem idxD (a b c d : Int) : (∀ w : World, (Instr.index 24 (.agg #[.int .u32 a, .int .u32 b, .int .u32 c, .int .u32 d]) (.int .i64 0)).run Tryd.prog w = .ok (.int .u32 a) w) ∧ (∀ w : World, (Instr.index 24 (.agg #[.int .u32 a, .int .u32 b, .int .u32 c, .int .u32 d]) (.int .i64 1)).run Tryd.prog w = .ok (.int .u32 b) w) ∧
    (∀ w : World, (Instr.index 24 (.agg #[.int .u32 a, .int .u32 b, .int .u32 c, .int .u32 d]) (.int .i64 2)).run Tryd.prog w = .ok (.int .u32 c) w) ∧ (∀ w : World, (Instr.index 24 (.agg #[.int .u32 a, .int .u32 b, .int .u32 c, .int .u32 d]) (.int .i64 3)).run Tryd.prog w = .ok (.int .u32 d) w) :=
  ⟨fun _ => by kernel_rfl, fun _ => by kernel_rfl, fun _ => by kernel_rfl, fun _ => by kernel_rfl⟩
set_option maxRecDepth 100000 in
set_option maxHeartbeats 2000000 in
theorem steps_code (m : Ws) (w : World) (hm : Ok4 m) :
    Calls Tryd.prog 54 #[ag m] w (StpE w (nms m)) := by
  have hlen := bse_length hm
  have hlt := bse_lt m
  have hms := lft_msg hm
  obtain ⟨l, hl⟩ : ∃ l, bse m = l := ⟨_, rfl⟩
  unfold nms
  rw [hl] at hlen hlt hms ⊢
  obtain ⟨a, b, c, d, rfl, ha, hb, hc, hd⟩ := ok4 hm
  rw [bse4] at hl
  obtain ⟨A, rfl⟩ := Int.eq_ofNat_of_zero_le ha.1
  obtain ⟨B, rfl⟩ := Int.eq_ofNat_of_zero_le hb.1
  obtain ⟨C, rfl⟩ := Int.eq_ofNat_of_zero_le hc.1
  obtain ⟨D, rfl⟩ := Int.eq_ofNat_of_zero_le hd.1
  simp only [Int.toNat_natCast] at hl
  have C0 := Lib.hid (fun (v : Value) (w' : World) => digits_code (z := 8) (B := w.heap.size) (m := 0) (r := 8) (n := 8) (W := A) (xs := []) (v := v) w' rfl (by have := ha.2; omega) (by omega) rfl (by omega) (by omega) (by omega))
  have C1 := Lib.hid (fun (v : Value) (w' : World) => digits_code (z := 8) (B := w.heap.size) (m := 8) (r := 16) (n := 8) (W := B) (xs := hxs 8 A) (v := v) w' rfl (by have := hb.2; omega) (by omega) (by simp [hxs_length]) (by omega) (by omega) (by omega))
  have C2 := Lib.hid (fun (v : Value) (w' : World) => digits_code (z := 8) (B := w.heap.size) (m := 16) (r := 24) (n := 8) (W := C) (xs := hxs 8 A ++ hxs 8 B) (v := v) w' rfl (by have := hc.2; omega) (by omega) (by simp [hxs_length]) (by omega) (by omega) (by omega))
  have C3 := Lib.hid (fun (v : Value) (w' : World) => digits_code (z := 8) (B := w.heap.size) (m := 24) (r := 32) (n := 8) (W := D) (xs := hxs 8 A ++ hxs 8 B ++ hxs 8 C) (v := v) w' rfl (by have := hd.2; omega) (by omega) (by simp [hxs_length]) (by omega) (by omega) (by omega))
  have C4 := Lib.hid (fun (v : Value) (w' : World) => digits_code (z := 3) (B := w.heap.size) (m := 32) (r := 35) (n := 3) (W := lft l) (xs := l) (v := v) w' rfl (by omega) (by omega) hlen (by omega) (by omega) (by omega))
  have HL : Hid (hxs 8 A ++ hxs 8 B ++ hxs 8 C ++ hxs 8 D = l) := Lib.hid (by rw [← hl]; simp)
  obtain ⟨j0, j1, j2, j3⟩ := idxD (A : Int) B C D
  obtain ⟨i0, hi, hz0, hz1, hz2⟩ := info_parts infoI
  rw [ag4]
  clear ha hb hc hd hl hm
  go_enter Tryd.func54, Tryd.ntmps54
  go_wp2_with (at_make; refine wpList_make_own _ rfl _ _ 70 rfl w.heap.size 3 i0 (.int .i64 0) 1 Tryd.underlying70 hi hz0 hz1 _ _ _ 35 rfl rfl (by omega) ?b2 ?b3 ?b4 ?_)
  case b2 => rw [hz2]; omega
  case b3 => unfold maxLen; omega
  case b4 => simp
  intro w0 hown0 hgrow0
  have HO := Lib.hid hown0
  have HB := Lib.hid (((Below.refl w.heap.size w).alloc (Nat.le_refl _) _).grown hgrow0 (by simp) (fun k hk => by cases hk))
  have hbk := ((Below.refl (w.heap.size + 1) (w.alloc (.cells #[.int .u32 (A : Int), .int .u32 (B : Int), .int .u32 (C : Int), .int .u32 (D : Int)] 24))).grown hgrow0 (by simp) (fun k hk => by cases hk)).block w.heap.size (by omega)
  rw [heap_alloc_new] at hbk
  obtain ⟨m0, m1, m2, m3, _⟩ := cells4 hbk
  clear hown0 hgrow0 hbk
  go_wp2_with fail
  refine wp_loop_rounds 5 ?_
  rw [rounds_succ]
  go_wp2_with fail
  refine (C0.out _ _ HO.out HB.out.size).mono ?_
  rintro e w1 ⟨g1, c1, rfl, ho, hb⟩
  replace HO := Lib.hid ho
  replace HB := Lib.hid (HB.out.trans hb)
  clear ho hb m0 m1 m2 m3
  go_wp2_with fail
  rw [rounds_succ]
  go_wp2_with fail
  refine (C1.out _ _ HO.out HB.out.size).mono ?_
  rintro e w2 ⟨g2, c2, rfl, ho, hb⟩
  replace HO := Lib.hid ho
  replace HB := Lib.hid (HB.out.trans hb)
  clear ho hb
  go_wp2_with fail
  rw [rounds_succ]
  go_wp2_with fail
  refine (C2.out _ _ HO.out HB.out.size).mono ?_
  rintro e w3 ⟨g3, c3, rfl, ho, hb⟩
  replace HO := Lib.hid ho
  replace HB := Lib.hid (HB.out.trans hb)
  clear ho hb
  go_wp2_with fail
  rw [rounds_succ]
  go_wp2_with fail
  refine (C3.out _ _ HO.out HB.out.size).mono ?_
  rintro e w4 ⟨g4, c4, rfl, ho, hb⟩
  replace HO := Lib.hid ho
  replace HB := Lib.hid (HB.out.trans hb)
  clear ho hb
  go_wp2_with fail
  rw [rounds_succ]
  go_wp2_with fail
  rw [HL.out] at HO
  have HLT := Lib.hid hlt
  clear C0 C1 C2 C3 HL j0 j1 j2 j3 hlt
  have HR := Lib.hid (IRow.own HO.out)
  go_loopw [6, 20] (fun left si wr => ∃ j : Nat, j ≤ 32 ∧ si = .int .i64 (j : Int) ∧ left = .int .i64 ((lft (l.take j) : Nat) : Int) ∧ wr = w4) (fun _ si _ => 32 - (intOf si).toNat)
  case atStart => exact ⟨0, by omega, rfl, rfl, rfl⟩
  case round =>
    obtain ⟨j, hj, rfl, rfl, rfl⟩ := hrel
    by_cases hjl : j < 32
    · have j0 : (0 : Int) ≤ (j : Int) := by omega
      have j1 : (j : Int) < 32 := by omega
      have hc := HR.out.at_ j (by omega)
      have ht := lft_take (l := l) (j := j) (by omega)
      have hd : l.getD j 0 < 16 := by
        rw [List.getD_eq_getElem?_getD, List.getElem?_eq_getElem (by omega)]
        exact HLT.out _ (List.getElem_mem _)
      have hle : lft (l.take (j + 1)) ≤ 480 := by
        have := lft_le (l.take (j + 1))
        rw [List.length_take] at this
        omega
      obtain ⟨d, e⟩ : ∃ d, l.getD j 0 = d := ⟨_, rfl⟩
      obtain ⟨s, es⟩ : ∃ s, lft (l.take j) = s := ⟨_, rfl⟩
      obtain ⟨s2, es2⟩ : ∃ s2, lft (l.take (j + 1)) = s2 := ⟨_, rfl⟩
      rw [e] at hc hd ht
      rw [es, es2] at ht
      rw [es2] at hle
      rw [es]
      have ES2 := Lib.hid es2
      clear e es es2
      go_wp2_with fail
      go_roundw
      case rel => exact ⟨j + 1, by omega, by go_num, by rw [ES2.out]; go_num, trivial⟩
      case measure => simp [intOf]; omega
    · obtain rfl : j = 32 := by omega
      rw [List.take_of_length_le (by omega)]
      have i0 : (0 : Int) ≤ ((lft l : Nat) : Int) := by omega
      have i1 : ((lft l : Nat) : Int) < 4294967296 := by omega
      go_wp2_with fail
      refine (C4.out _ _ HO.out HB.out.size).mono ?_
      rintro e w5 ⟨g5, c5, rfl, ho, hb⟩
      have HO5 := Lib.hid ho
      have HB5 := Lib.hid (HB.out.trans hb)
      clear ho hb
      go_wp2_with fail
      go_ret
      obtain ⟨g, cap, hv, hg, h1, h2⟩ := own_shape1 HO5.out (by omega)
      injection hv with hv _ hcap
      injection hv with hv
      injection hv with hv
      subst hv hcap
      exact ⟨_, _, rfl, h1, h2, IRow.own HO5.out, hg, HB5.out⟩
end Go.Proofs.YtfbefenagnlnfaaDoor
set_option linter.unusedVariables false
namespace Go.Proofs.YtfbefenagnlnfaaDoor
open Go.RowKit

def rv (x : Int) : Int := x % 256 * 16777216 + x / 256 % 256 * 65536 + x / 65536 % 256 * 256 + x / 16777216
theorem rv_W {x : Int} (h : W32 x) : W32 (rv x) := by
  have h1 := h.1
  have h2 := h.2
  unfold W32 rv; omega
theorem rv_digs {b0 b1 b2 b3 : Int} (h0 : 0 ≤ b0 ∧ b0 < 256) (h1 : 0 ≤ b1 ∧ b1 < 256) (h2 : 0 ≤ b2 ∧ b2 < 256) (h3 : 0 ≤ b3 ∧ b3 < 256) : rv (b0 + b1 * 256 + b2 * 65536 + b3 * 16777216) = b3 + b2 * 256 + b1 * 65536 + b0 * 16777216 := by
  unfold rv
  rw [show (b0 + b1 * 256 + b2 * 65536 + b3 * 16777216) % 256 = b0 by omega, show (b0 + b1 * 256 + b2 * 65536 + b3 * 16777216) / 256 % 256 = b1 by omega, show (b0 + b1 * 256 + b2 * 65536 + b3 * 16777216) / 65536 % 256 = b2 by omega, show (b0 + b1 * 256 + b2 * 65536 + b3 * 16777216) / 16777216 = b3 by omega]
  omega
theorem digs {x : Int} (h : W32 x) : ∃ b0 b1 b2 b3 : Int, (0 ≤ b0 ∧ b0 < 256) ∧ (0 ≤ b1 ∧ b1 < 256) ∧ (0 ≤ b2 ∧ b2 < 256) ∧ (0 ≤ b3 ∧ b3 < 256) ∧ x = b0 + b1 * 256 + b2 * 65536 + b3 * 16777216 := by
  have h1 := h.1
  have h2 := h.2
  exact ⟨x % 256, x / 256 % 256, x / 65536 % 256, x / 16777216, by omega, by omega, by omega, by omega, by omega⟩
theorem rv_rv {x : Int} (h : W32 x) : rv (rv x) = x := by
  obtain ⟨b0, b1, b2, b3, h0, h1, h2, h3, rfl⟩ := digs h
  rw [rv_digs h0 h1 h2 h3, rv_digs h3 h2 h1 h0]

theorem take_snoc_map (zs : List Int) (k : Nat) (h : k < zs.length) : (zs.map rv).take (k + 1) = (zs.map rv).take k ++ [rv (zs.getD k 0)] := by
  rw [take_snoc_getD _ k (by simpa using h)]
  simp [List.getD, h]

def big (l : Ws) : ByteArray := strOfNums (bytsAll (l.map rv))
/-- The text of a digest. -/
def dtx (l : Ws) : ByteArray := ⟨(txt (big l).data.toList).toArray⟩
theorem size_big (l : Ws) : (big l).size = 4 * l.length := by
  unfold big
  rw [strOfNums_size, length_bytsAll, List.length_map]
theorem rv_ok4 {l : Ws} (h : Ok4 l) : Ok4 (l.map rv) := by
  obtain ⟨a0, a1, a2, a3, rfl, h0, h1, h2, h3⟩ := ok4 h
  exact mk4 (rv_W h0) (rv_W h1) (rv_W h2) (rv_W h3)
end Go.Proofs.YtfbefenagnlnfaaDoor
set_option linter.unusedVariables false
namespace Go.Proofs.YtfbefenagnlnfaaDoor
open Go.RowKit

theorem drop_cons (s : ByteArray) (k : Nat) (h : k < s.size) : s.data.toList.drop k = s[k] :: s.data.toList.drop (k + 1) := by
  have hl : k < s.data.toList.length := by simpa using h
  rw [List.drop_eq_getElem_cons hl]
  congr 1
theorem drop_all (s : ByteArray) : s.data.toList.drop s.size = [] := List.drop_of_length_le (by simp)
theorem list_size (s : ByteArray) : s.data.toList.length = s.size := by simp

end Go.Proofs.YtfbefenagnlnfaaDoor
set_option linter.unusedVariables false
namespace Go.Proofs.YtfbefenagnlnfaaDoor
open Go.RowKit

theorem byteCells_len (l : List UInt8) : (Lib.byteCells l).length = l.length := Lib.byteCells_length l
theorem byteCells_append (a b : List UInt8) : Lib.byteCells (a ++ b) = Lib.byteCells a ++ Lib.byteCells b := by simp [Lib.byteCells]
theorem byteCells_one (l : List UInt8) : ∀ u ∈ Lib.byteCells l, u.oneCell' = true := by
  intro u hu
  simp only [Lib.byteCells, List.mem_map] at hu
  obtain ⟨x, _, rfl⟩ := hu
  rfl
/-- string(v) of an own slice of bytes. -/
theorem conv_own {w : World} {B n : Nat} {v : Value} {l : List UInt8} (h : w.ownsRow B 5 1 v n (Lib.byteCells l)) (hn : n = l.length) :
    (convert 95 9 v).run Tryd.prog w = .ok (.string ⟨l.toArray⟩) w := by
  subst hn
  have h2 := h
  obtain ⟨_, ⟨rfl, h0⟩ | ⟨g, cap, cur, rfl, _⟩⟩ := h
  · have hl : l = [] := by simpa using h0
    subst hl
    exact run_convert_bytes_nil w 95 5 Tryd.underlying95 Tryd.underlying5 0 0 9 Tryd.underlying9
  · refine run_convert_bytes_back (P := Tryd.prog) w 95 9 5 ⟨g, 0, none⟩ cap l Tryd.underlying95 Tryd.underlying5 Tryd.underlying9 ?_
    intro j hj
    exact h2.cells (g := g) rfl j _ (by simp [Lib.byteCells, hj])

set_option maxHeartbeats 400000 in
theorem sign_any (n : Nat) (w : World) (hn : n < 16) :
    Calls Tryd.prog 78 #[.int .i64 (n : Int)] w fun e w' => e = .returned (.int .u8 ((sg n).toNat : Int)) ∧ w' = w := by
  by_cases h : n < 10
  · have e : ((sg n).toNat : Int) = 48 + (n : Int) := by
      unfold sg
      rw [if_pos h]
      have : (UInt8.ofNat (48 + n)).toNat = 48 + n := by simp; omega
      rw [this]; omega
    rw [e]
    go_enter Tryd.func78, Tryd.ntmps78
    go_wp2
    go_ret
    exact ⟨ret_int (by omega), rfl⟩
  · have e : ((sg n).toNat : Int) = 87 + (n : Int) := by
      unfold sg
      rw [if_neg h]
      have : (UInt8.ofNat (87 + n)).toNat = 87 + n := by simp; omega
      rw [this]; omega
    rw [e]
    go_enter Tryd.func78, Tryd.ntmps78
    go_wp2
    go_ret
    exact ⟨ret_int (by omega), rfl⟩
theorem hx_cells (l : List UInt8) (c : UInt8) : Lib.byteCells l ++ [.int .u8 ((sg (c.toNat / 16)).toNat : Int), .int .u8 ((sg (c.toNat % 16)).toNat : Int)] = Lib.byteCells (l ++ hx c) := by
  rw [byteCells_append]
  rfl
theorem wrap_small (z : Int) (h0 : 0 ≤ z) (h1 : z < 4294967296) : IntKind.i64.wrap z = z := by
  rw [IntKind.wrap_i64]; omega
theorem wrap_quo (n : Nat) (h : n < 256) : IntKind.i64.wrap ((IntKind.i64.wrap (n : Int)).tdiv 16) = ((n / 16 : Nat) : Int) := by
  rw [wrap_small (n : Int) (by omega) (by omega), Int.tdiv_eq_ediv_of_nonneg (by omega), wrap_small _ (by omega) (by omega)]
  omega
theorem wrap_rem (n : Nat) (h : n < 256) : (IntKind.i64.wrap (n : Int)).tmod 16 = ((n % 16 : Nat) : Int) := by
  rw [wrap_small (n : Int) (by omega) (by omega), Int.tmod_eq_emod_of_nonneg (by omega)]
  omega

set_option maxRecDepth 100000 in
set_option maxHeartbeats 3200000 in
theorem text_ref (s : ByteArray) (w : World) (hs : s.size ≤ 1073741824) :
    Calls Tryd.prog 72 #[.string s] w fun e w' => e = .returned (.string ⟨(txt s.data.toList).toArray⟩) ∧ Below w.heap.size w w' := by
  obtain ⟨i0, hi, hz0, hz1, hz2⟩ := info_parts info5
  go_enter Tryd.func72, Tryd.ntmps72
  go_wp2_with fail
  go_loopw [3, 4] (fun out si wr => ∃ (k : Nat) (l : List UInt8), k ≤ s.size ∧ si = .int .i64 k ∧ Hid (l ++ txt (s.data.toList.drop k) = txt s.data.toList) ∧ l.length = 2 * k ∧
      Hid (wr.ownsRow w.heap.size 5 1 out (2 * k) (Lib.byteCells l)) ∧ Below w.heap.size w wr) (fun _ si _ => s.size - (intOf si).toNat)
  case atStart => exact ⟨0, [], Nat.zero_le _, rfl, rfl, rfl, World.ownsRow_nil _ _ _ _, Below.refl _ _⟩
  case round =>
    obtain ⟨k, l, hk, rfl, HX, hl, HO, hnx⟩ := hrel
    by_cases hlt : k < s.size
    · have HX2 := HX.out
      rw [drop_cons s k hlt, txt, ← List.append_assoc] at HX2
      have HX3 := Lib.hid HX2
      clear HX2
      obtain ⟨c, hc⟩ : ∃ c, s[k] = c := ⟨_, rfl⟩
      rw [hc] at HX3
      have hc8 : c.toNat < 256 := c.toNat_lt
      have HC := Lib.hid (hx_cells l c)
      have hi0 : (0 : Int) ≤ (k : Int) := by omega
      have hi1 : (k : Int) < (s.size : Int) := by omega
      have HQ := Lib.hid (wrap_quo c.toNat hc8)
      have HR := Lib.hid (wrap_rem c.toNat hc8)
      have HS := Lib.hid hnx.size
      go_wp2_with fail
      go_region_held3 (fun _ => True) (exact trivial)
        (first
          | (go_at_call 78; rw [HQ.out]; refine (sign_any (c.toNat / 16) _ (by omega)).mono ?_; rintro e w' ⟨rfl, rfl⟩)
          | (go_at_call 78; rw [HR.out]; refine (sign_any (c.toNat % 16) _ (by omega)).mono ?_; rintro e w' ⟨rfl, rfl⟩)
          | (refine step_append_lies _ (by rfl) _ _ _ (by rfl) w.heap.size 5 i0 _ 1 1 Tryd.underlying95 hi hz0 hz1 hz2 rfl (by omega) _ (2 * k) (Lib.byteCells l) (by rfl) ((HO.out.alloc _).drew)
              ⟨wr.heap.size, 0, none⟩ 2 2 [.int .u8 ((sg (c.toNat / 16)).toNat : Int), .int .u8 ((sg (c.toNat % 16)).toNat : Int)] (by rfl) (by rfl)
              (World.news_of_block (cs := #[.int .u8 ((sg (c.toNat / 16)).toNat : Int), .int .u8 ((sg (c.toNat % 16)).toNat : Int)]) (t := 5) (fr := (0, 0)) (heap_alloc_new wr _)) (by simp [Value.oneCell'])
              (by omega) (by unfold maxLen; omega) (by omega) (by have := HS.out; simp; omega) (wr.heap.size + 1) (by simp) ?_; intro gg cap w1 hown1 hgrow hat hlt1))
      all_goals
        have hown2 := hown1
        rw [HC.out] at hown2
        have HO2 := Lib.hid hown2
        have hb2 := (((Below.refl w.heap.size wr).alloc hnx.size _).drew.grown hgrow (by have := hnx.size; simp; omega) (fun k hk => (HO.out.lt k hk).1))
        clear hown1 hgrow hown2
        go_wp2_with fail
        go_roundw
        case rel => exact ⟨k + 1, l ++ hx c, by omega, by go_num, HX3, by simp [hx]; omega, by rw [show 2 * (k + 1) = 2 * k + 2 by omega]; exact HO2, hnx.trans hb2⟩
        case measure => simp [intOf]; omega
    · obtain rfl : k = s.size := by omega
      have HX2 := HX.out
      rw [drop_all, txt, List.append_nil] at HX2
      subst HX2
      have hcv := conv_own HO.out hl.symm
      go_wp2
      go_ret
      exact ⟨rfl, hnx⟩

end Go.Proofs.YtfbefenagnlnfaaDoor
set_option linter.unusedVariables false
namespace Go.Proofs.YtfbefenagnlnfaaDoor
open Go.RowKit

theorem conv4 (W : World) (a b c d : Int) : (convert 95 9 (.slice (some ⟨W.heap.size, 0, none⟩) 4 4)).run Tryd.prog (W.alloc (.cells #[.int .u8 a, .int .u8 b, .int .u8 c, .int .u8 d] 5)) = .ok (.string (strOfNums [a, b, c, d])) (W.alloc (.cells #[.int .u8 a, .int .u8 b, .int .u8 c, .int .u8 d] 5)) := by
  have h := run_convert_bytes_arg (P := Tryd.prog) (W.alloc (.cells #[.int .u8 a, .int .u8 b, .int .u8 c, .int .u8 d] 5)) 95 5 Tryd.underlying95 Tryd.underlying5 W.heap.size 0 4 4 [a, b, c, d] (by simp) (by
    intro i hi
    match i, hi with
    | 0, _ => simp
    | 1, _ => simp
    | 2, _ => simp
    | 3, _ => simp) 9 Tryd.underlying9
  exact h
theorem conv4d (W : World) (a b c d : Int) : (convert 95 9 (.slice (some ⟨W.heap.size, 0, none⟩) 4 4)).run Tryd.prog (W.alloc (.cells #[.int .u8 a, .int .u8 b, .int .u8 c, .int .u8 d] 5)).drew = .ok (.string (strOfNums [a, b, c, d])) (W.alloc (.cells #[.int .u8 a, .int .u8 b, .int .u8 c, .int .u8 d] 5)).drew := by
  have h := run_convert_bytes_arg (P := Tryd.prog) (W.alloc (.cells #[.int .u8 a, .int .u8 b, .int .u8 c, .int .u8 d] 5)).drew 95 5 Tryd.underlying95 Tryd.underlying5 W.heap.size 0 4 4 [a, b, c, d] (by simp) (by
    intro i hi
    match i, hi with
    | 0, _ => simp
    | 1, _ => simp
    | 2, _ => simp
    | 3, _ => simp) 9 Tryd.underlying9
  exact h

/-- A digest stands in a call's first block. -/
structure D1 (w W : World) (a0 a1 a2 a3 : Int) : Prop where
  ha : W.heap[w.heap.size]? = some (.cells #[.int .u32 a0, .int .u32 a1, .int .u32 a2, .int .u32 a3] 24 (0, 0))
  be : Below w.heap.size w W
  sz : w.heap.size < W.heap.size
theorem D1.after {w W W' : World} {a0 a1 a2 a3 : Int} (h : D1 w W a0 a1 a2 a3) (hb : Below W.heap.size W W') : D1 w W' a0 a1 a2 a3 := by
  have hs := h.sz
  have hs2 := hb.size
  exact ⟨by rw [hb.block _ hs]; exact h.ha, h.be.trans (hb.mono (by omega)), by omega⟩
theorem D1.new (w : World) (a0 a1 a2 a3 : Int) : D1 w (w.alloc (.cells #[.int .u32 a0, .int .u32 a1, .int .u32 a2, .int .u32 a3] 24)) a0 a1 a2 a3 :=
  ⟨heap_alloc_new _ _, (Below.refl _ w).alloc (Nat.le_refl _) _, by simp⟩

/-- A word's bytes, from the highest one to the lowest one. -/
def be4 (x : Int) : List Int := [x / 16777216, x / 65536 % 256, x / 256 % 256, x % 256]
theorem byts_rv {x : Int} (h : W32 x) : byts (rv x) = be4 x := by
  obtain ⟨b0, b1, b2, b3, h0, h1, h2, h3, rfl⟩ := digs h
  rw [rv_digs h0 h1 h2 h3]
  unfold byts be4
  rw [show (b3 + b2 * 256 + b1 * 65536 + b0 * 16777216) % 256 = b3 by omega, show (b3 + b2 * 256 + b1 * 65536 + b0 * 16777216) / 256 % 256 = b2 by omega, show (b3 + b2 * 256 + b1 * 65536 + b0 * 16777216) / 65536 % 256 = b1 by omega, show (b3 + b2 * 256 + b1 * 65536 + b0 * 16777216) / 16777216 = b0 by omega,
    show (b0 + b1 * 256 + b2 * 65536 + b3 * 16777216) % 256 = b0 by omega, show (b0 + b1 * 256 + b2 * 65536 + b3 * 16777216) / 256 % 256 = b1 by omega, show (b0 + b1 * 256 + b2 * 65536 + b3 * 16777216) / 65536 % 256 = b2 by omega, show (b0 + b1 * 256 + b2 * 65536 + b3 * 16777216) / 16777216 = b3 by omega]
theorem str_append (xs ys : List Int) : strOfNums (xs ++ ys) = strOfNums xs ++ strOfNums ys := by
  apply ByteArray.ext
  simp [strOfNums]
theorem big4 {a0 a1 a2 a3 : Int} (h0 : W32 a0) (h1 : W32 a1) (h2 : W32 a2) (h3 : W32 a3) : big [a0, a1, a2, a3] = (((⟨#[]⟩ : ByteArray) ++ strOfNums (be4 a0)) ++ strOfNums (be4 a1)) ++ strOfNums (be4 a2) ++ strOfNums (be4 a3) := by
  unfold big
  simp only [List.map_cons, List.map_nil, bytsAll, byts_rv h0, byts_rv h1, byts_rv h2, byts_rv h3, List.append_nil]
  rw [str_append, str_append, str_append]
  apply ByteArray.ext
  simp

theorem D1.cell {w W : World} {a0 a1 a2 a3 : Int} (h : D1 w W a0 a1 a2 a3) (k : Nat) (hk : k < 4) : W.cell? ⟨w.heap.size, k, none⟩ = some (.int .u32 ([a0, a1, a2, a3].getD k 0)) := by
  obtain ⟨c0, c1, c2, c3, _⟩ := cells4 h.ha
  match k, hk with
  | 0, _ => exact c0
  | 1, _ => exact c1
  | 2, _ => exact c2
  | 3, _ => exact c3
theorem bytsAll_next (l : Ws) (k : Nat) (h : k < l.length) (hw : W32 (l.getD k 0)) : strOfNums (bytsAll ((l.map rv).take (k + 1))) = strOfNums (bytsAll ((l.map rv).take k)) ++ strOfNums (be4 (l.getD k 0)) := by
  rw [take_snoc_map l k h, bytsAll_append, str_append]
  simp only [bytsAll, List.append_nil, byts_rv hw]
theorem cat4 {s : ByteArray} {n : Nat} (h : s.size = n) (a b c d : Int) : (s ++ strOfNums [a, b, c, d]).size = n + 4 := by rw [ByteArray.size_append, h, strOfNums_size]; rfl

set_option maxHeartbeats 1000000 in
theorem dtext_ref (l : Ws) (w : World) (hl : Ok4 l) :
    Calls Tryd.prog 61 #[ag l] w fun e w' => e = .returned (.string (dtx l)) ∧ Below w.heap.size w w' := by
  have hs := size_big l
  rw [hl.1] at hs
  have c3 := fun w => text_ref (big l) w (by omega)
  obtain ⟨T, hT⟩ : ∃ T, dtx l = T := ⟨_, rfl⟩
  rw [show (⟨(txt (big l).data.toList).toArray⟩ : ByteArray) = T from hT] at c3
  rw [hT]
  obtain ⟨a0, a1, a2, a3, rfl, h0, h1, h2, h3⟩ := ok4 hl
  have hbig : big [a0, a1, a2, a3] = strOfNums (bytsAll (([a0, a1, a2, a3].map rv).take 4)) := rfl
  rw [hbig] at c3
  have C3 := Lib.hid c3
  have HN := Lib.hid (bytsAll_next [a0, a1, a2, a3])
  have HG := Lib.hid (getD4 hl)
  rw [ag4]
  have HD := Lib.hid (D1.new w a0 a1 a2 a3)
  clear c3 hs hT hl h0 h1 h2 h3 hbig
  have z1 : ∀ a b c d : Int, (strOfNums [a, b, c, d]).size = 4 := fun a b c d => strOfNums_size _
  go_enter Tryd.func61, Tryd.ntmps61
  go_wp2
  go_loopw [3, 4] (fun sb si wr => ∃ (k : Nat) (s : ByteArray), k ≤ 4 ∧ si = .int .i64 k ∧ sb = .string s ∧ s.size = 4 * k ∧ Hid (s = strOfNums (bytsAll (([a0, a1, a2, a3].map rv).take k))) ∧ Hid (D1 w wr a0 a1 a2 a3)) (fun _ si _ => 4 - (intOf si).toNat)
  case atStart => exact ⟨0, ⟨#[]⟩, by omega, rfl, rfl, rfl, rfl, HD⟩
  case round =>
    obtain ⟨k, s, hk, rfl, rfl, hss, HX, HD2⟩ := hrel
    by_cases hlt : k < 4
    · have hi0 : (0 : Int) ≤ (k : Int) := by omega
      have hi1 : (k : Int) < 4 := by omega
      have hsi : (s.size : Int) ≤ 16 := by omega
      have cz := HD2.out.cell k hlt
      have hz := HG.out k
      have hn := HN.out k hlt
      obtain ⟨z, hzz⟩ : ∃ z, [a0, a1, a2, a3].getD k 0 = z := ⟨_, rfl⟩
      rw [hzz] at cz hz hn
      obtain ⟨z0, z9⟩ := hz
      have HNN := Lib.hid (hn ⟨z0, by omega⟩)
      have hcat := cat4 hss (z / 16777216) (z / 65536 % 256) (z / 256 % 256) (z % 256)
      have HSS := Lib.hid hcat
      have v2 := conv4d wr
      clear hn hzz hcat
      go_wp2
      go_region
      obtain ⟨s2, hs2⟩ : ∃ x : ByteArray, s ++ strOfNums [z / 16777216, z / 65536 % 256, z / 256 % 256, z % 256] = x := ⟨_, rfl⟩
      rw [hs2] at HSS ⊢
      have hx2 : s2 = strOfNums (bytsAll (([a0, a1, a2, a3].map rv).take (k + 1))) := by
        rw [HNN.out, ← HX.out, ← hs2]
        simp only [be4]
      have HX2 := Lib.hid hx2
      clear hx2 hs2
      go_wp2
      go_roundw
      case rel => exact ⟨k + 1, s2, by omega, by go_num, rfl, by rw [HSS.out]; omega, HX2, Lib.hid (HD2.out.after ((Below.refl _ _).alloc (Nat.le_refl _) _).drew)⟩
      case measure => simp [intOf]; omega
    · obtain rfl : k = 4 := by omega
      have hc := C3.out wr
      rw [← HX.out] at hc
      have HC := Lib.hid hc
      clear hc
      go_wp2_with fail
      refine HC.out.mono ?_
      rintro e w6 ⟨rfl, b6⟩
      have hb := (HD2.out.after b6).be
      go_wp2
      go_ret
      exact ⟨rfl, hb⟩
end Go.Proofs.YtfbefenagnlnfaaDoor
set_option linter.unusedVariables false
namespace Go.Proofs.YtfbefenagnlnfaaDoor
open Go.RowKit

/-- The digits as letters. -/
theorem txt_append (a b : List UInt8) : txt (a ++ b) = txt a ++ txt b := by
  induction a with
  | nil => rfl
  | cons c r ih => simp [txt, ih]
theorem hx_num (n : Nat) (h : n < 256) : hx (UInt8.ofNat n) = [sg (n / 16), sg (n % 16)] := by
  have e : (UInt8.ofNat n).toNat = n := by simp; omega
  unfold hx; rw [e]
theorem txt_word {x : Int} (h : W32 x) : txt ((be4 x).map fun n => UInt8.ofNat n.toNat) = (hxs 8 x.toNat).map sg := by
  obtain ⟨X, rfl⟩ := Int.eq_ofNat_of_zero_le h.1
  have hX : X < 4294967296 := by have := h.2; omega
  have e : (be4 (X : Int)).map (fun n => UInt8.ofNat n.toNat) = [UInt8.ofNat (X / 16777216), UInt8.ofNat (X / 65536 % 256), UInt8.ofNat (X / 256 % 256), UInt8.ofNat (X % 256)] := by
    simp only [be4, List.map_cons, List.map_nil]
    rw [show ((X : Int) / 16777216).toNat = X / 16777216 by omega, show ((X : Int) / 65536 % 256).toNat = X / 65536 % 256 by omega, show ((X : Int) / 256 % 256).toNat = X / 256 % 256 by omega, show ((X : Int) % 256).toNat = X % 256 by omega]
  rw [e]
  simp only [txt]
  rw [hx_num _ (by omega), hx_num _ (by omega), hx_num _ (by omega), hx_num _ (by omega)]
  simp only [hxs, Int.toNat_natCast, List.map_cons, List.map_nil, List.append_nil, List.cons_append, List.nil_append]
  rw [show X / 16777216 / 16 = X / 16 ^ 7 % 16 by omega, show X / 16777216 % 16 = X / 16 ^ 6 % 16 by omega, show X / 65536 % 256 / 16 = X / 16 ^ 5 % 16 by omega, show X / 65536 % 256 % 16 = X / 16 ^ 4 % 16 by omega,
    show X / 256 % 256 / 16 = X / 16 ^ 3 % 16 by omega, show X / 256 % 256 % 16 = X / 16 ^ 2 % 16 by omega, show X % 256 / 16 = X / 16 ^ 1 % 16 by omega, show X % 256 % 16 = X / 16 ^ 0 % 16 by omega]
theorem dtx_digits {m : Ws} (h : Ok4 m) : (dtx m).data.toList = (bse m).map sg := by
  obtain ⟨a, b, c, d, rfl, ha, hb, hc, hd⟩ := ok4 h
  unfold dtx
  rw [big4 ha hb hc hd, bse4]
  have e : ((((⟨#[]⟩ : ByteArray) ++ strOfNums (be4 a)) ++ strOfNums (be4 b)) ++ strOfNums (be4 c) ++ strOfNums (be4 d)).data.toList = (be4 a).map (fun n => UInt8.ofNat n.toNat) ++ ((be4 b).map (fun n => UInt8.ofNat n.toNat) ++ ((be4 c).map (fun n => UInt8.ofNat n.toNat) ++ (be4 d).map (fun n => UInt8.ofNat n.toNat))) := by
    simp [strOfNums]
  rw [e, txt_append, txt_append, txt_append, txt_word ha, txt_word hb, txt_word hc, txt_word hd]
  simp
theorem dtx_size {m : Ws} (h : Ok4 m) : (dtx m).size = 32 := by
  have := congrArg List.length (dtx_digits h)
  rw [List.length_map, bse_length h] at this
  rw [← this]; simp
theorem dtx_byte {m : Ws} (h : Ok4 m) (k : Nat) (hk : k < (dtx m).size) : (dtx m)[k] = sg ((bse m).getD k 0) := by
  have h32 := dtx_size h
  have e : (dtx m).data.toList[k]? = some ((dtx m)[k]) := by
    rw [List.getElem?_eq_getElem (by simpa using hk)]
    rfl
  rw [dtx_digits h, List.getElem?_map, List.getElem?_eq_getElem (by rw [bse_length h]; omega)] at e
  have e2 := Option.some.inj e
  rw [← e2, List.getD_eq_getElem?_getD, List.getElem?_eq_getElem (by rw [bse_length h]; omega)]
  rfl
theorem sg_low {d : Nat} (h : d < 10) : (sg d).toNat = 48 + d := by
  unfold sg
  rw [if_pos h]
  simp; omega
theorem sg_high {d : Nat} (h : ¬ d < 10) (h2 : d < 16) : (sg d).toNat = 87 + d := by
  unfold sg
  rw [if_neg h]
  simp; omega
theorem hx3_cells {s : Nat} (h : s ≤ 480) : ics (hxs 3 s) = [.int .i64 ((s : Int) / 256), .int .i64 ((s : Int) / 16 % 16), .int .i64 ((s : Int) % 16)] := by
  simp only [ics, hxs, List.map_cons, List.map_nil]
  rw [show ((s / 16 ^ 2 % 16 : Nat) : Int) = (s : Int) / 256 by omega, show ((s / 16 ^ 1 % 16 : Nat) : Int) = (s : Int) / 16 % 16 by omega, show ((s / 16 ^ 0 % 16 : Nat) : Int) = (s : Int) % 16 by omega]
set_option maxRecDepth 100000 in
set_option maxHeartbeats 2000000 in
theorem steps_ref (m : Ws) (w : World) (hm : Ok4 m) :
    Calls Tryd.prog 39 #[ag m] w (StpE w (nms m)) := by
  have hlen := bse_length hm
  have hlt := bse_lt m
  have hms := lft_msg hm
  have hsz := dtx_size hm
  have c1 := fun w => dtext_ref m w hm
  obtain ⟨l, hl⟩ : ∃ l, bse m = l := ⟨_, rfl⟩
  obtain ⟨T, hT⟩ : ∃ T, dtx m = T := ⟨_, rfl⟩
  unfold nms
  rw [hl] at hlen hlt hms ⊢
  rw [hT] at hsz c1
  have hby : ∀ (k : Nat) (hk : k < T.size), T[k] = sg (l.getD k 0) := by
    intro k hk
    subst hT hl
    exact dtx_byte hm k hk
  obtain ⟨a, b, c, d, rfl, _⟩ := ok4 hm
  rw [ag4] at c1
  rw [ag4]
  have C1 := Lib.hid c1
  have HBY := Lib.hid hby
  have HLT := Lib.hid hlt
  obtain ⟨i0, hi, hz0, hz1, hz2⟩ := info_parts infoI
  have HK := Lib.hid ((Kx.nil none w).more (.cells #[.int .u32 a, .int .u32 b, .int .u32 c, .int .u32 d] 24 (0, 0)))
  clear c1 hby hlt hl hT hm
  go_enter Tryd.func39, Tryd.ntmps39
  go_wp2_with fail
  refine (C1.out _).mono ?_
  rintro e w1 ⟨rfl, hb⟩
  have HB1 := Lib.hid (HK.out.after hb).be.plain
  clear hb HK
  go_wp2_with fail
  go_loopw [4, 5, 6] (fun out sum si wr => ∃ j : Nat, j ≤ 32 ∧ si = .int .i64 (j : Int) ∧ sum = .int .i64 ((lft (l.take j) : Nat) : Int) ∧ Hid (wr.ownsRow w.heap.size 3 1 out j (ics (l.take j))) ∧ Hid (Below w.heap.size w wr)) (fun _ _ si _ => 32 - (intOf si).toNat)
  case atStart => exact ⟨0, by omega, rfl, rfl, World.ownsRow_nil _ _ _ _, HB1⟩
  case round =>
    obtain ⟨j, hj, rfl, rfl, HO, HB⟩ := hrel
    by_cases hjl : j < 32
    · have j0 : (0 : Int) ≤ (j : Int) := by omega
      have j1 : (j : Int) < (T.size : Int) := by omega
      have hbj := HBY.out j (by omega)
      have ht := lft_take (l := l) (j := j) (by omega)
      have htk : l.take (j + 1) = l.take j ++ [l.getD j 0] := by
        rw [List.take_succ_eq_append_getElem (by omega), List.getD_eq_getElem?_getD, List.getElem?_eq_getElem (by omega)]; rfl
      have hd : l.getD j 0 < 16 := by
        rw [List.getD_eq_getElem?_getD, List.getElem?_eq_getElem (by omega)]
        exact HLT.out _ (List.getElem_mem _)
      have hle : lft (l.take (j + 1)) ≤ 480 := by
        have := lft_le (l.take (j + 1))
        rw [List.length_take] at this
        omega
      obtain ⟨d, e⟩ : ∃ d, l.getD j 0 = d := ⟨_, rfl⟩
      obtain ⟨s, es⟩ : ∃ s, lft (l.take j) = s := ⟨_, rfl⟩
      obtain ⟨s2, es2⟩ : ∃ s2, lft (l.take (j + 1)) = s2 := ⟨_, rfl⟩
      rw [e] at hd ht htk hbj
      rw [es, es2] at ht
      rw [es2] at hle
      rw [es]
      have ES2 := Lib.hid es2
      have HTK := Lib.hid htk
      obtain ⟨x, hx⟩ : ∃ x, T[j]'(by omega) = x := ⟨_, rfl⟩
      rw [hx] at hbj
      by_cases h10 : d < 10
      · have hv : x.toNat = 48 + d := by rw [hbj]; exact sg_low h10
        have e48 : 48 + (d : Int) - 48 = (d : Int) := by omega
        clear e es es2 htk hbj
        go_wp2_with (at_builtin; refine wpList_append_own _ rfl _ _ 70 rfl w.heap.size 3 i0 (.int .i64 0) 1 8 Tryd.underlying70 hi hz0 hz1 hz2 rfl (by decide) _ _ _ rfl (HO.out.alloc _) ⟨wr.heap.size, 0, none⟩ 1 1 (ics [d]) rfl rfl (one_new _ _ _) (ics_one _) ?c3 ?c4 ?c5 ?_)
        case c3 => unfold maxLen; omega
        case c4 => omega
        case c5 => have := HB.out.size; simp; omega
        intro v' w2 hown1 hgrow1 _
        have hown2 : w2.ownsRow w.heap.size 3 1 v' (j + 1) (ics (l.take (j + 1))) := by rw [HTK.out, ics_append]; exact hown1
        have HO2 := Lib.hid hown2
        have HB2 := Lib.hid ((HB.out.alloc (by have := HB.out.size; omega) _).grown hgrow1 (by simp; have := HB.out.size; omega) (fun k hk => (HO.out.lt k hk).1))
        clear hown1 hown2 hgrow1
        go_wp2
        go_roundw
        case rel => exact ⟨j + 1, by omega, by go_num, by rw [ES2.out]; go_num, HO2, HB2⟩
        case measure => simp [intOf]; omega
      · have hv : x.toNat = 87 + d := by rw [hbj]; exact sg_high h10 hd
        have e97 : 87 + (d : Int) - 97 + 10 = (d : Int) := by omega
        clear e es es2 htk hbj
        go_wp2_with (at_builtin; refine wpList_append_own _ rfl _ _ 70 rfl w.heap.size 3 i0 (.int .i64 0) 1 8 Tryd.underlying70 hi hz0 hz1 hz2 rfl (by decide) _ _ _ rfl (HO.out.alloc _) ⟨wr.heap.size, 0, none⟩ 1 1 (ics [d]) rfl rfl (one_new _ _ _) (ics_one _) ?c3 ?c4 ?c5 ?_)
        case c3 => unfold maxLen; omega
        case c4 => omega
        case c5 => have := HB.out.size; simp; omega
        intro v' w2 hown1 hgrow1 _
        have hown2 : w2.ownsRow w.heap.size 3 1 v' (j + 1) (ics (l.take (j + 1))) := by rw [HTK.out, ics_append]; exact hown1
        have HO2 := Lib.hid hown2
        have HB2 := Lib.hid ((HB.out.alloc (by have := HB.out.size; omega) _).grown hgrow1 (by simp; have := HB.out.size; omega) (fun k hk => (HO.out.lt k hk).1))
        clear hown1 hown2 hgrow1
        go_wp2
        go_roundw
        case rel => exact ⟨j + 1, by omega, by go_num, by rw [ES2.out]; go_num, HO2, HB2⟩
        case measure => simp [intOf]; omega
    · obtain rfl : j = 32 := by omega
      rw [List.take_of_length_le (by omega)] at HO ⊢
      obtain ⟨s, es⟩ : ∃ s, lft l = s := ⟨_, rfl⟩
      rw [es] at hms ⊢
      have i1 : (0 : Int) ≤ (s : Int) := by omega
      have i2 : (s : Int) ≤ 480 := by omega
      have HX3 := Lib.hid (hx3_cells hms)
      go_wp2_with (at_builtin; refine wpList_append_own _ rfl _ _ 70 rfl w.heap.size 3 i0 (.int .i64 0) 1 8 Tryd.underlying70 hi hz0 hz1 hz2 rfl (by decide) _ _ _ rfl (HO.out.alloc _) ⟨wr.heap.size, 0, none⟩ 3 3 [.int .i64 ((s : Int) / 256), .int .i64 ((s : Int) / 16 % 16), .int .i64 ((s : Int) % 16)] rfl rfl (World.news_of_block (cs := #[.int .i64 ((s : Int) / 256), .int .i64 ((s : Int) / 16 % 16), .int .i64 ((s : Int) % 16)]) (t := 3) (fr := (0, 0)) (heap_alloc_new wr _)) (by simp [Value.oneCell']) ?c3 ?c4 ?c5 ?_)
      case c3 => unfold maxLen; omega
      case c4 => omega
      case c5 => have := HB.out.size; simp; omega
      intro v' w2 hown1 hgrow1 _
      have hown2 : w2.ownsRow w.heap.size 3 1 v' 35 (ics (l ++ hxs 3 s)) := by rw [ics_append, HX3.out]; exact hown1
      have HO2 := Lib.hid hown2
      have HB2 := Lib.hid ((HB.out.alloc (by have := HB.out.size; omega) _).grown hgrow1 (by simp; have := HB.out.size; omega) (fun k hk => (HO.out.lt k hk).1))
      clear hown1 hown2 hgrow1
      go_wp2
      go_ret
      obtain ⟨g, cap, rfl, hg, h1, h2⟩ := own_shape1 HO2.out (by omega)
      refine ⟨_, _, rfl, h1, h2, ?_, hg, HB2.out⟩
      first | exact IRow.own HO2.out | (rw [es]; exact IRow.own HO2.out)
end Go.Proofs.YtfbefenagnlnfaaDoor
set_option linter.unusedVariables false
namespace Go.Proofs.YtfbefenagnlnfaaDoor
open Go.RowKit

/-- What Sign gives. -/
def DgE (w : World) (l : Dl) (e : Ending) (w' : World) : Prop := ∃ g cap, e = .returned (.slice (some ⟨g, 0, none⟩) 35 cap) ∧ 35 ≤ cap ∧ cap ≤ maxLen ∧ DRow w' g 0 l ∧ w.heap.size ≤ g ∧ Below w.heap.size w w'
/-- Seed and message stand in a call's first blocks. -/
def Km (w W : World) (x y : Ws) : Prop := Kx none w W [(w.heap.size, .cells (x.map (Value.int .u32)).toArray 24 (0, 0)), (w.heap.size + 1, .cells (y.map (Value.int .u32)).toArray 24 (0, 0))]
theorem Km.grow0 {w W W' : World} {x y : Ws} (h : Km w W x y) {row : Option Nat} (hg : W.grownBy W' row) (hr : ∀ g, row = some g → w.heap.size + 2 ≤ g) : Km w W' x y := by
  refine Kx.grow h hg (fun g hk => ⟨by have := hr g hk; omega, fun z hz => ?_⟩)
  have := hr g hk
  simp only [List.mem_cons, List.not_mem_nil, or_false] at hz
  rcases hz with rfl | rfl <;> simp <;> omega
theorem Km.grow {w W W' : World} {x y : Ws} (h : Km w W x y) (c : Obj) {row : Option Nat} (hg : (W.alloc c).grownBy W' row) (hr : ∀ g, row = some g → w.heap.size + 2 ≤ g) : Km w W' x y :=
  Km.grow0 ((h.more c).first 2 : Km w (W.alloc c) x y) hg hr
set_option maxRecDepth 100000 in
set_option maxHeartbeats 4000000 in
theorem sign_code (seed msg : Ws) (w : World) (hs : Ok4 seed) (hm : Ok4 msg) (ht : Tabs w) :
    Calls Tryd.prog 32 #[ag seed, ag msg] w (DgE w (sgn seed msg)) := by
  have c1 := fun i w hi ht => beginning_code seed i w hs hi ht
  have c2 := fun w => steps_code msg w hm
  have he := fun (i : Nat) (hi : i < 35) => ok4 (sgi_ok hs (msg := msg) (i := i) hi)
  have hbo := fun (i : Nat) (hi : i < 35) => bgn_ok hs (i := i) (by omega)
  have huo : ∀ j, j ≤ 35 → Oks (upto (sgi seed msg) j) := fun j hj => upto_ok fun i hi => sgi_ok hs (by omega)
  have hn := nms_get msg
  have hnl := nms_length hm
  have HE := Lib.hid he
  have HBO := Lib.hid hbo
  have HUO := Lib.hid huo
  have HN := Lib.hid hn
  have HNL := Lib.hid hnl
  obtain ⟨x0, x1, x2, x3, ex, _⟩ := ok4 hs
  obtain ⟨y0, y1, y2, y3, ey, _⟩ := ok4 hm
  rw [show ag seed = .agg #[.int .u32 x0, .int .u32 x1, .int .u32 x2, .int .u32 x3] by rw [ex, ag4]] at c1 ⊢
  rw [show ag msg = .agg #[.int .u32 y0, .int .u32 y1, .int .u32 y2, .int .u32 y3] by rw [ey, ag4]] at c2 ⊢
  have C1 := Lib.hid c1
  have C2 := Lib.hid c2
  have HT := Lib.hid ht
  have HK0 : Hid (Km w ((w.alloc (.cells #[.int .u32 x0, .int .u32 x1, .int .u32 x2, .int .u32 x3] 24)).alloc (.cells #[.int .u32 y0, .int .u32 y1, .int .u32 y2, .int .u32 y3] 24)) [x0, x1, x2, x3] [y0, y1, y2, y3]) :=
    Lib.hid (((Kx.nil none w).more (.cells #[.int .u32 x0, .int .u32 x1, .int .u32 x2, .int .u32 x3] 24 (0, 0))).add (w.heap.size + 1) (by simp) (.cells #[.int .u32 y0, .int .u32 y1, .int .u32 y2, .int .u32 y3] 24 (0, 0)))
  obtain ⟨q0, hz, hz0, hz1, hz2⟩ := info_parts infoDg
  clear c1 c2 he hbo huo hn hnl ex ey hs hm ht
  go_enter Tryd.func32, Tryd.ntmps32
  go_wp2_with (at_make; refine wpList_make_own _ rfl _ _ 36 rfl (w.heap.size + 2) 24 q0 _ 4 Tryd.underlying36 hz hz0 hz1 _ _ _ 35 rfl rfl (by omega) ?b2 ?b3 ?b4 ?_)
  case b2 => rw [hz2]; omega
  case b3 => unfold maxLen; omega
  case b4 => simp
  intro w0 hown0 hgrow0
  have HO := Lib.hid hown0
  have HK := Lib.hid (HK0.out.grow0 hgrow0 (fun k hk => by cases hk))
  clear hown0 hgrow0
  obtain ⟨m0, m1, m2, m3, _⟩ := cells4 (HK.out.at 1 rfl)
  go_wp2_with fail
  refine (C2.out _).mono ?_
  rintro e w1 ⟨g1, c1, rfl, _, _, hir, _, hb⟩
  have HI := Lib.hid hir
  replace HK : Hid (Km w w1 [x0, x1, x2, x3] [y0, y1, y2, y3]) := Lib.hid (HK.out.after hb)
  replace HO := Lib.hid (own_keep HO.out hb)
  clear hb hir m0 m1 m2 m3
  go_wp2_with fail
  go_loopw [5, 12] (fun out v wr => ∃ j : Nat, j ≤ 35 ∧ v = .int .i64 (j : Int) ∧ Hid (Km w wr [x0, x1, x2, x3] [y0, y1, y2, y3]) ∧ Hid (wr.ownsRow (w.heap.size + 2) 24 4 out j (mcs (upto (sgi seed msg) j))) ∧ Hid (IRow wr g1 (nms msg))) (fun _ v _ => 35 - (intOf v).toNat)
  case atStart => exact ⟨0, Nat.zero_le _, rfl, HK, HO, HI⟩
  case round =>
    obtain ⟨j, hj, rfl, HK, HO, HI⟩ := hrel
    by_cases hlt : j < 35
    · have i0 : (0 : Int) ≤ (j : Int) := by omega
      have i1 : (j : Int) < 35 := by omega
      obtain ⟨z0, z1, z2, z3, ez, _⟩ := HE.out j hlt
      have ob := HBO.out j hlt
      have c1 := fun w ht => C1.out j w hlt ht
      obtain ⟨b0, b1, b2, b3, eb, _⟩ := ok4 ob
      rw [eb, ag4] at c1
      rw [eb] at ob
      have hd := HN.out j
      have hc := HI.out.at_ j (by rw [HNL.out]; exact hlt)
      have ew : wk ((nms msg).getD j 0) [b0, b1, b2, b3] = [z0, z1, z2, z3] := by rw [← eb]; exact ez
      obtain ⟨d, ed⟩ : ∃ d, (nms msg).getD j 0 = d := ⟨_, rfl⟩
      rw [ed] at hd hc ew
      have CB := Lib.hid c1
      have CW := Lib.hid (fun W ht => step_at (z := (d : Int)) (n := d) W ob rfl (by omega) ew ht)
      have HZ := Lib.hid (upto_cells (sgi seed msg) j ez)
      clear c1 ob eb ew ez ed
      obtain ⟨a0, a1, a2, a3, _⟩ := cells4 (HK.out.at 0 rfl)
      go_wp2_with fail
      refine (CB.out _ (HT.out.oldn HK.out)).mono ?_
      rintro e w2 ⟨rfl, hb⟩
      replace HK : Hid (Km w w2 [x0, x1, x2, x3] [y0, y1, y2, y3]) := Lib.hid (HK.out.after hb)
      replace HO := Lib.hid (own_keep HO.out hb)
      replace HI := Lib.hid (HI.out.kept hb)
      clear hb a0 a1 a2 a3
      go_wp2_with fail
      refine (walk_made _ _ _ _ _).mono ?_
      rintro e w3 ⟨rfl, rfl⟩
      go_wp2_with fail
      refine (CW.out _ (HT.out.oldn HK.out)).mono ?_
      rintro e w3 ⟨rfl, hb⟩
      replace HK : Hid (Km w w3 [x0, x1, x2, x3] [y0, y1, y2, y3]) := Lib.hid (HK.out.after hb)
      replace HO := Lib.hid (own_keep HO.out hb)
      replace HI := Lib.hid (HI.out.kept hb)
      clear hb
      go_wp2_with (at_builtin; refine wpList_append_own _ rfl _ _ 36 rfl (w.heap.size + 2) 24 q0 _ 4 16 Tryd.underlying36 hz hz0 hz1 hz2 rfl (by decide) _ _ _ rfl (HO.out.alloc _) ⟨w3.heap.size, 0, none⟩ 1 1 [.int .u32 z0, .int .u32 z1, .int .u32 z2, .int .u32 z3] rfl rfl (World.news_of_block (cs := #[.int .u32 z0, .int .u32 z1, .int .u32 z2, .int .u32 z3]) (t := 24) (fr := (0, 0)) (heap_alloc_new w3 _)) (by simp [Value.oneCell']) ?c3 ?c4 ?c5 ?_)
      case c3 => unfold maxLen; omega
      case c4 => omega
      case c5 => have := HK.out.lt 1 rfl; simp; omega
      intro v' w4 hown1 hgrow1 _
      rw [← HZ.out] at hown1
      have HO2 := Lib.hid hown1
      have HK2 := Lib.hid (HK.out.grow _ hgrow1 (fun g hg => (HO.out.lt g hg).1))
      have HI2 := Lib.hid ((HI.out.kept ((Below.refl _ _).alloc (Nat.le_refl _) _)).grow hgrow1 (e := 24) (by decide) (own_ty (HO.out.alloc _)))
      clear hown1 hgrow1
      go_wp2
      go_roundw
      case rel => exact ⟨j + 1, by omega, by go_num, HK2, HO2, HI2⟩
      case measure => simp [intOf]; omega
    · obtain rfl : j = 35 := by omega
      obtain ⟨g, cap, rfl, hg, h1, h2⟩ := own_shape4 HO.out (by omega)
      have HD := Lib.hid (DRow.own HO.out (HUO.out 35 (Nat.le_refl _)))
      go_wp2_with fail
      go_ret
      exact ⟨g, cap, rfl, h1, h2, HD.out, by omega, HK.out.be.plain⟩
end Go.Proofs.YtfbefenagnlnfaaDoor
set_option linter.unusedVariables false
namespace Go.Proofs.YtfbefenagnlnfaaDoor
open Go.RowKit

set_option maxRecDepth 100000 in
set_option maxHeartbeats 4000000 in
theorem sign_ref (seed msg : Ws) (w : World) (hs : Ok4 seed) (hm : Ok4 msg) :
    Calls Tryd.prog 34 #[ag seed, ag msg] w (DgE w (sgn seed msg)) := by
  have c1 := fun i w hi => begin_ref seed i w hs hi
  have c2 := fun w => steps_ref msg w hm
  have he := fun (i : Nat) (hi : i < 35) => ok4 (sgi_ok hs (msg := msg) (i := i) hi)
  have hbo := fun (i : Nat) (hi : i < 35) => bgn_ok hs (i := i) (by omega)
  have huo : ∀ j, j ≤ 35 → Oks (upto (sgi seed msg) j) := fun j hj => upto_ok fun i hi => sgi_ok hs (by omega)
  have hn := nms_get msg
  have hnl := nms_length hm
  have HE := Lib.hid he
  have HBO := Lib.hid hbo
  have HUO := Lib.hid huo
  have HN := Lib.hid hn
  have HNL := Lib.hid hnl
  obtain ⟨x0, x1, x2, x3, ex, _⟩ := ok4 hs
  obtain ⟨y0, y1, y2, y3, ey, _⟩ := ok4 hm
  rw [show ag seed = .agg #[.int .u32 x0, .int .u32 x1, .int .u32 x2, .int .u32 x3] by rw [ex, ag4]] at c1 ⊢
  rw [show ag msg = .agg #[.int .u32 y0, .int .u32 y1, .int .u32 y2, .int .u32 y3] by rw [ey, ag4]] at c2 ⊢
  have C1 := Lib.hid c1
  have C2 := Lib.hid c2
  have HK0 : Hid (Km w ((w.alloc (.cells #[.int .u32 x0, .int .u32 x1, .int .u32 x2, .int .u32 x3] 24)).alloc (.cells #[.int .u32 y0, .int .u32 y1, .int .u32 y2, .int .u32 y3] 24)) [x0, x1, x2, x3] [y0, y1, y2, y3]) :=
    Lib.hid (((Kx.nil none w).more (.cells #[.int .u32 x0, .int .u32 x1, .int .u32 x2, .int .u32 x3] 24 (0, 0))).add (w.heap.size + 1) (by simp) (.cells #[.int .u32 y0, .int .u32 y1, .int .u32 y2, .int .u32 y3] 24 (0, 0)))
  obtain ⟨q0, hz, hz0, hz1, hz2⟩ := info_parts infoDg
  clear c1 c2 he hbo huo hn hnl ex ey hs hm
  go_enter Tryd.func34, Tryd.ntmps34
  obtain ⟨m0, m1, m2, m3, _⟩ := cells4 (HK0.out.at 1 rfl)
  go_wp2_with fail
  refine (C2.out _).mono ?_
  rintro e w1 ⟨g1, c1, rfl, _, _, hir, _, hb⟩
  have HI := Lib.hid hir
  have HK : Hid (Km w w1 [x0, x1, x2, x3] [y0, y1, y2, y3]) := Lib.hid (HK0.out.after hb)
  clear hb hir m0 m1 m2 m3
  go_wp2_with fail
  go_loopw [6, 7] (fun out v wr => ∃ j : Nat, j ≤ 35 ∧ v = .int .i64 (j : Int) ∧ Hid (Km w wr [x0, x1, x2, x3] [y0, y1, y2, y3]) ∧ Hid (wr.ownsRow (w.heap.size + 2) 24 4 out j (mcs (upto (sgi seed msg) j))) ∧ Hid (IRow wr g1 (nms msg))) (fun _ v _ => 35 - (intOf v).toNat)
  case atStart => exact ⟨0, Nat.zero_le _, rfl, HK, World.ownsRow_nil _ _ _ _, HI⟩
  case round =>
    obtain ⟨j, hj, rfl, HK, HO, HI⟩ := hrel
    by_cases hlt : j < 35
    · have i0 : (0 : Int) ≤ (j : Int) := by omega
      have i1 : (j : Int) < 35 := by omega
      obtain ⟨z0, z1, z2, z3, ez, _⟩ := HE.out j hlt
      have ob := HBO.out j hlt
      have c1 := fun w => C1.out j w hlt
      obtain ⟨b0, b1, b2, b3, eb, _⟩ := ok4 ob
      rw [eb, ag4] at c1
      rw [eb] at ob
      have hd := HN.out j
      have hc := HI.out.at_ j (by rw [HNL.out]; exact hlt)
      have ew : wk ((nms msg).getD j 0) [b0, b1, b2, b3] = [z0, z1, z2, z3] := by rw [← eb]; exact ez
      obtain ⟨d, ed⟩ : ∃ d, (nms msg).getD j 0 = d := ⟨_, rfl⟩
      rw [ed] at hd hc ew
      have cw := fun W => walk_ref [b0, b1, b2, b3] d W ob (by omega)
      rw [ew, ag4, ag4] at cw
      have CB := Lib.hid c1
      have CW := Lib.hid cw
      have ED := Lib.hid ed
      have HZ := Lib.hid (upto_cells (sgi seed msg) j ez)
      clear c1 cw ob eb ew ez ed
      obtain ⟨a0, a1, a2, a3, _⟩ := cells4 (HK.out.at 0 rfl)
      replace HK : Hid (Km w wr.drew [x0, x1, x2, x3] [y0, y1, y2, y3]) := Lib.hid HK.out.drew
      replace HO : Hid (wr.drew.ownsRow (w.heap.size + 2) 24 4 _ j (mcs (upto (sgi seed msg) j))) := Lib.hid HO.out.drew
      replace HI := Lib.hid HI.out.drew
      go_wp2_with fail
      go_region_law (first
        | (go_simp; go_at_call 43; (with_reducible refine (CB.out _).mono ?_); rintro e w2 ⟨rfl, hb⟩; replace HK : Hid (Km w w2 [x0, x1, x2, x3] [y0, y1, y2, y3]) := Lib.hid (HK.out.after hb); replace HO := Lib.hid (own_keep HO.out hb); replace HI := Lib.hid (HI.out.kept hb); clear hb; have hc := HI.out.at_ j (by rw [HNL.out]; exact hlt); rw [ED.out] at hc)
        | (go_simp; go_at_call 40; (with_reducible refine (CW.out _).mono ?_); rintro e w3 ⟨rfl, hb⟩; replace HK : Hid (Km w w3 [x0, x1, x2, x3] [y0, y1, y2, y3]) := Lib.hid (HK.out.after hb); replace HO := Lib.hid (own_keep HO.out hb); replace HI := Lib.hid (HI.out.kept hb); clear hb)
        | (refine step_append_lies _ (by rfl) _ _ _ (by rfl) (w.heap.size + 2) 24 q0 _ 4 16 Tryd.underlying36 hz hz0 hz1 hz2 rfl (by omega) _ j (mcs (upto (sgi seed msg) j)) (by rfl) (HO.out.alloc _)
            ⟨_, 0, none⟩ 1 1 [.int .u32 z0, .int .u32 z1, .int .u32 z2, .int .u32 z3] (by rfl) (by rfl)
            (World.news_of_block (cs := #[.int .u32 z0, .int .u32 z1, .int .u32 z2, .int .u32 z3]) (t := 24) (fr := (0, 0)) (heap_alloc_new _ _)) (by simp [Value.oneCell'])
            (by omega) (by unfold maxLen; omega) (by omega) (by have := HK.out.lt 1 rfl; simp; omega) _ rfl ?_; intro gg cap2 w4 hown1 hgrow1 hat hlt1))
      all_goals
        rw [← HZ.out] at hown1
        have HO2 := Lib.hid hown1
        have HK2 := Lib.hid (HK.out.grow _ hgrow1 (fun g hg => (HO.out.lt g hg).1))
        have HI2 := Lib.hid ((HI.out.kept ((Below.refl _ _).alloc (Nat.le_refl _) _)).grow hgrow1 (e := 24) (by decide) (own_ty (HO.out.alloc _)))
        clear hown1 hgrow1 hat
        go_wp2_with fail
        go_roundw
        case rel => exact ⟨j + 1, by omega, by go_num, HK2, HO2, HI2⟩
        case measure => simp [intOf]; omega
    · obtain rfl : j = 35 := by omega
      obtain ⟨g, cap, rfl, hg, h1, h2⟩ := own_shape4 HO.out (by omega)
      have HD := Lib.hid (DRow.own HO.out (HUO.out 35 (Nat.le_refl _)))
      go_wp2_with fail
      go_ret
      exact ⟨g, cap, rfl, h1, h2, HD.out, by omega, HK.out.be.plain⟩
end Go.Proofs.YtfbefenagnlnfaaDoor
set_option linter.unusedVariables false
namespace Go.Proofs.YtfbefenagnlnfaaDoor
open Go.RowKit

theorem IRow.set4 {w : World} {g : Nat} {l : List Nat} (h : IRow w g l) {b : Nat} (hb : b ≠ g) (o0 o1 o2 o3 : Nat) (v0 v1 v2 v3 : Value) : IRow ((((w.setCell ⟨b, o0, none⟩ v0).setCell ⟨b, o1, none⟩ v1).setCell ⟨b, o2, none⟩ v2).setCell ⟨b, o3, none⟩ v3) g l :=
  (((h.set (p := ⟨b, o0, none⟩) hb v0).set (p := ⟨b, o1, none⟩) hb v1).set (p := ⟨b, o2, none⟩) hb v2).set (p := ⟨b, o3, none⟩) hb v3
set_option maxRecDepth 100000 in
set_option maxHeartbeats 2000000 in
theorem reach_no {A : Option Addr} {n cap : Nat} (msg : Ws) (w : World) (hm : Ok4 msg) (hn : n ≠ 35) (hn' : n ≤ 9223372036854775807) :
    Calls Tryd.prog 36 #[ag msg, .slice A n cap] w fun e w' => e = .returned (.tuple #[.agg #[.int .u32 0, .int .u32 0, .int .u32 0, .int .u32 0], .bool false]) ∧ Below w.heap.size w w' := by
  obtain ⟨y0, y1, y2, y3, ey, _⟩ := ok4 hm
  rw [ey, ag4]
  have i0 : ((n : Int) != 35) = true := by rw [bne_iff_ne]; omega
  have HK := Lib.hid (((Kx.nil none w).more (.cells #[.int .u32 y0, .int .u32 y1, .int .u32 y2, .int .u32 y3] 24 (0, 0))).add (w.heap.size + 1) (by simp) (.cells #[.int .u32 0, .int .u32 0, .int .u32 0, .int .u32 0] 24 (0, 0)))
  clear ey hm
  go_enter Tryd.func36, Tryd.ntmps36
  go_wp2_with fail
  exact bodyPost_ret (v := .tuple #[.agg #[.int .u32 0, .int .u32 0, .int .u32 0, .int .u32 0], .bool false]) (by
    obtain ⟨k0, k1, k2, k3, _⟩ := cells4 (HK.out.at 1 rfl)
    simp [results, go_sem, k0, k1, k2, k3]) rfl ⟨rfl, HK.out.be.plain⟩
set_option maxRecDepth 100000 in
set_option maxHeartbeats 4000000 in
theorem reach_row {b off cap : Nat} {l : Dl} (msg : Ws) (w : World) (hm : Ok4 msg) (hl : l.length = 35) (hc : 35 ≤ cap) (hr : DRow w b off l) (ht : Tabs w) :
    Calls Tryd.prog 36 #[ag msg, .slice (some ⟨b, off, none⟩) 35 cap] w fun e w' => e = .returned (.tuple #[ag (rch msg l), .bool true]) ∧ Below w.heap.size w w' := by
  have o := rch_ok (msg := msg) hr.ok hl
  have c1 := fun w => steps_code msg w hm
  have c2 := fun w ht => publicOf_code (upto (rci msg l) 35) w (upto_ok fun i hi => rci_ok hr.ok hl hi) (upto_length _ _) ht
  have he := fun (i : Nat) (hi : i < 35) => ok4 (rci_ok (msg := msg) hr.ok hl hi)
  have huo : ∀ j, j ≤ 35 → Oks (upto (rci msg l) j) := fun j hj => upto_ok fun i hi => rci_ok hr.ok hl (by omega)
  have HE := Lib.hid he
  have HUO := Lib.hid huo
  have HN := Lib.hid (nms_get msg)
  have HNL := Lib.hid (nms_length hm)
  have HR := Lib.hid hr
  have HL := Lib.hid hl
  have hbw := hr.lt
  change Calls _ _ _ _ fun e w' => e = .returned (.tuple #[ag (pof (upto (rci msg l) 35)), .bool true]) ∧ _
  change Ok4 (pof (upto (rci msg l) 35)) at o
  obtain ⟨p0, p1, p2, p3, ep, _⟩ := ok4 o
  rw [ep] at c2 ⊢
  obtain ⟨y0, y1, y2, y3, ey, _⟩ := ok4 hm
  rw [show ag msg = .agg #[.int .u32 y0, .int .u32 y1, .int .u32 y2, .int .u32 y3] by rw [ey, ag4]] at c1 ⊢
  rw [ag4] at c2 ⊢
  have C1 := Lib.hid c1
  have C2 := Lib.hid c2
  have HT := Lib.hid ht
  have z48 := zero48
  have HK0 : Hid (Kp3 w (((w.alloc (.cells #[.int .u32 y0, .int .u32 y1, .int .u32 y2, .int .u32 y3] 24)).alloc (.cells #[.int .u32 0, .int .u32 0, .int .u32 0, .int .u32 0] 24)).alloc (.cells (endc []) 83)) [y0, y1, y2, y3] []) :=
    Lib.hid ((((Kx.nil none w).more (.cells #[.int .u32 y0, .int .u32 y1, .int .u32 y2, .int .u32 y3] 24 (0, 0))).add (w.heap.size + 1) (by simp) (.cells #[.int .u32 0, .int .u32 0, .int .u32 0, .int .u32 0] 24 (0, 0))).add (w.heap.size + 1 + 1) (by simp) (.cells (endc []) 83 (0, 0)))
  clear c1 c2 he huo o ep ey hm ht hr hl
  go_enter Tryd.func36, Tryd.ntmps36
  go_wp2_with fail
  refine (C1.out _).mono ?_
  rintro e w1 ⟨g1, c1, rfl, _, _, hir, hg1, hb⟩
  have HI := Lib.hid hir
  have HK : Hid (Kp3 w w1 [y0, y1, y2, y3] []) := Lib.hid (HK0.out.after hb)
  have hg2 : w.heap.size + 1 + 1 < g1 := by
    have := HK0.out.lt 2 rfl
    omega
  clear hb hir hg1
  go_wp2_with fail
  go_loopw [16] (fun v wr => ∃ j : Nat, j ≤ 35 ∧ v = .int .i64 (j : Int) ∧ Hid (Kp3 w wr [y0, y1, y2, y3] (upto (rci msg l) j)) ∧ Hid (IRow wr g1 (nms msg))) (fun v _ => 35 - (intOf v).toNat)
  case atStart => exact ⟨0, Nat.zero_le _, rfl, HK, HI⟩
  case round =>
    obtain ⟨j, hj, rfl, HK, HI⟩ := hrel
    by_cases hlt : j < 35
    · have i0 : (0 : Int) ≤ (j : Int) := by omega
      have i1 : (j : Int) < 35 := by omega
      obtain ⟨z0, z1, z2, z3, ez, _⟩ := HE.out j hlt
      have hg := List.getElem?_eq_getElem (l := l) (i := j) (by rw [HL.out]; exact hlt)
      have ob := HR.out.ok _ (List.getElem_mem (l := l) (n := j) (by rw [HL.out]; exact hlt))
      obtain ⟨b0, b1, b2, b3, eb, _⟩ := ok4 ob
      rw [eb] at hg ob
      obtain ⟨q0, q1, q2, q3⟩ := (HR.out.oldn HK.out).four hg
      have hd := HN.out j
      have hc := HI.out.at_ j (by rw [HNL.out]; exact hlt)
      have ew : wk (15 - (nms msg).getD j 0) [b0, b1, b2, b3] = [z0, z1, z2, z3] := by
        have hgd : l.getD j [] = [b0, b1, b2, b3] := by rw [List.getD_eq_getElem?_getD, hg]; rfl
        rw [← ez, rci, hgd]
      obtain ⟨d, ed⟩ : ∃ d, (nms msg).getD j 0 = d := ⟨_, rfl⟩
      rw [ed] at hd hc ew
      have CW := Lib.hid (fun W ht => step_at (z := 15 - (d : Int)) (n := 15 - d) W ob (by omega) (by omega) ew ht)
      have HZ : Hid (upto (rci msg l) (j + 1) = upto (rci msg l) j ++ [[z0, z1, z2, z3]]) := Lib.hid (by rw [upto_succ, ez])
      clear ob eb ew ez hg ed
      go_wp2_with fail
      refine (walk_made _ _ _ _ _).mono ?_
      rintro e w2 ⟨rfl, rfl⟩
      go_wp2_with fail
      refine (CW.out _ (HT.out.oldn HK.out)).mono ?_
      rintro e w3 ⟨rfl, hb⟩
      replace HK : Hid (Kp3 w w3 [y0, y1, y2, y3] (upto (rci msg l) j)) := Lib.hid (HK.out.after hb)
      replace HI := Lib.hid (HI.out.kept hb)
      clear hb q0 q1 q2 q3 hc
      obtain ⟨⟨a0, a1, a2, a3⟩, ⟨d0, d1, d2, d3⟩⟩ := end_cells (HK.out.at 2 rfl) (upto_length _ _) hlt (HUO.out j hj)
      have hk2 := HK.out.put (upto_length _ _) hlt (HUO.out j hj) z0 z1 z2 z3
      rw [← HZ.out] at hk2
      have HK2 := Lib.hid hk2
      have HI2 := Lib.hid (HI.out.set4 (b := w.heap.size + 1 + 1) (by omega) (j * 4) (j * 4 + 1) (j * 4 + 2) (j * 4 + 3) (.int .u32 z0) (.int .u32 z1) (.int .u32 z2) (.int .u32 z3))
      clear hk2
      go_wp2_with fail
      go_roundw
      case rel => exact ⟨j + 1, by omega, by go_num, HK2, HI2⟩
      case measure => simp [intOf]; omega
    · obtain rfl : j = 35 := by omega
      have hsz : (Tryd.prog.info? 83).map (·.size) = some (endc (upto (rci msg l) 35)).size := by rw [infoA, endc_size (HUO.out 35 (Nat.le_refl _)) (by rw [upto_length]; omega)]
      have HS := Lib.hid hsz
      have HF := Lib.hid (endc_full (upto_length (rci msg l) 35))
      clear hsz
      go_wp2_with fail
      refine wp_load_row 83 _ rfl (w.heap.size + 1 + 1) rfl 83 (endc (upto (rci msg l) 35)) (0, 0) _ (HK.out.at 2 rfl) Tryd.underlying83 rfl HS.out ?_
      rw [HF.out]
      go_wp2_with fail
      refine (C2.out _ (HT.out.oldn HK.out)).mono ?_
      rintro e w4 ⟨rfl, hb⟩
      replace HK : Hid (Kp3 w w4 [y0, y1, y2, y3] (upto (rci msg l) 35)) := Lib.hid (HK.out.after hb)
      clear hb
      obtain ⟨b0, b1, b2, b3, d0, d1, d2, d3⟩ := cells4 (HK.out.at 1 rfl)
      have HRR := Lib.hid (row4 (HK.out.at 1 rfl) (.int .u32 p0) (.int .u32 p1) (.int .u32 p2) (.int .u32 p3))
      have HEE := Lib.hid (HK.out.put4 1 rfl (.inr (by omega)) (.int .u32 p0) (.int .u32 p1) (.int .u32 p2) (.int .u32 p3)).be.plain
      go_wp2_with fail
      exact bodyPost_ret (v := .tuple #[.agg #[.int .u32 p0, .int .u32 p1, .int .u32 p2, .int .u32 p3], .bool true]) (by
        obtain ⟨k0, k1, k2, k3, _⟩ := cells4 HRR.out
        simp [results, go_sem, k0, k1, k2, k3]) rfl ⟨rfl, HEE.out⟩
end Go.Proofs.YtfbefenagnlnfaaDoor
set_option linter.unusedVariables false
namespace Go.Proofs.YtfbefenagnlnfaaDoor
open Go.RowKit

set_option maxRecDepth 100000 in
set_option maxHeartbeats 2000000 in
theorem reachr_no {A : Option Addr} {n cap : Nat} (msg : Ws) (w : World) (hm : Ok4 msg) (hn : n ≠ 35) (hn' : n ≤ 9223372036854775807) :
    Calls Tryd.prog 21 #[ag msg, .slice A n cap] w fun e w' => e = .returned (.tuple #[.agg #[.int .u32 0, .int .u32 0, .int .u32 0, .int .u32 0], .bool false]) ∧ Below w.heap.size w w' := by
  obtain ⟨y0, y1, y2, y3, ey, _⟩ := ok4 hm
  rw [ey, ag4]
  have i0 : ((n : Int) != 35) = true := by rw [bne_iff_ne]; omega
  have HK := Lib.hid (((Kx.nil none w).more (.cells #[.int .u32 y0, .int .u32 y1, .int .u32 y2, .int .u32 y3] 24 (0, 0))).add (w.heap.size + 1) (by simp) (.cells #[.int .u32 0, .int .u32 0, .int .u32 0, .int .u32 0] 24 (0, 0)))
  clear ey hm
  go_enter Tryd.func21, Tryd.ntmps21
  go_wp2_with fail
  exact bodyPost_ret (v := .tuple #[.agg #[.int .u32 0, .int .u32 0, .int .u32 0, .int .u32 0], .bool false]) (by
    obtain ⟨k0, k1, k2, k3, _⟩ := cells4 (HK.out.at 1 rfl)
    simp [results, go_sem, k0, k1, k2, k3]) rfl ⟨rfl, HK.out.be.plain⟩
set_option maxRecDepth 100000 in
set_option maxHeartbeats 4000000 in
theorem reachr_row {b off cap : Nat} {l : Dl} (msg : Ws) (w : World) (hm : Ok4 msg) (hl : l.length = 35) (hc : 35 ≤ cap) (hr : DRow w b off l) :
    Calls Tryd.prog 21 #[ag msg, .slice (some ⟨b, off, none⟩) 35 cap] w fun e w' => e = .returned (.tuple #[ag (rch msg l), .bool true]) ∧ Below w.heap.size w w' := by
  have o := rch_ok (msg := msg) hr.ok hl
  have c1 := fun w => steps_ref msg w hm
  have c2 := fun b cap w hr => ofr_row (upto (rci msg l) 35) b 0 cap w (upto_length _ _) hr
  have he := fun (i : Nat) (hi : i < 35) => ok4 (rci_ok (msg := msg) hr.ok hl hi)
  have huo : ∀ j, j ≤ 35 → Oks (upto (rci msg l) j) := fun j hj => upto_ok fun i hi => rci_ok hr.ok hl (by omega)
  have HE := Lib.hid he
  have HUO := Lib.hid huo
  have HN := Lib.hid (nms_get msg)
  have HNL := Lib.hid (nms_length hm)
  have HR := Lib.hid hr
  have HL := Lib.hid hl
  have hbw := hr.lt
  change Calls _ _ _ _ fun e w' => e = .returned (.tuple #[ag (pof (upto (rci msg l) 35)), .bool true]) ∧ _
  change Ok4 (pof (upto (rci msg l) 35)) at o
  obtain ⟨p0, p1, p2, p3, ep, _⟩ := ok4 o
  rw [ep] at c2 ⊢
  obtain ⟨y0, y1, y2, y3, ey, _⟩ := ok4 hm
  rw [show ag msg = .agg #[.int .u32 y0, .int .u32 y1, .int .u32 y2, .int .u32 y3] by rw [ey, ag4]] at c1 ⊢
  rw [ag4] at c2 ⊢
  have C1 := Lib.hid c1
  have C2 := Lib.hid c2
  have HK0 : Hid (Ks w ((w.alloc (.cells #[.int .u32 y0, .int .u32 y1, .int .u32 y2, .int .u32 y3] 24)).alloc (.cells #[.int .u32 0, .int .u32 0, .int .u32 0, .int .u32 0] 24)) [y0, y1, y2, y3]) :=
    Lib.hid (((Kx.nil none w).more (.cells #[.int .u32 y0, .int .u32 y1, .int .u32 y2, .int .u32 y3] 24 (0, 0))).add (w.heap.size + 1) (by simp) (.cells #[.int .u32 0, .int .u32 0, .int .u32 0, .int .u32 0] 24 (0, 0)))
  obtain ⟨q0, hz, hz0, hz1, hz2⟩ := info_parts infoDg
  clear c1 c2 he huo o ep ey hm hr hl
  go_enter Tryd.func21, Tryd.ntmps21
  go_wp2_with fail
  refine (C1.out _).mono ?_
  rintro e w1 ⟨g1, c1, rfl, _, _, hir, hg1, hb⟩
  have HI := Lib.hid hir
  have HK : Hid (Ks w w1 [y0, y1, y2, y3]) := Lib.hid (HK0.out.after hb)
  clear hb hir hg1
  go_wp2_with fail
  go_loopw [7, 8] (fun out v wr => ∃ j : Nat, j ≤ 35 ∧ v = .int .i64 (j : Int) ∧ Hid (Ks w wr [y0, y1, y2, y3]) ∧ Hid (wr.ownsRow (w.heap.size + 2) 24 4 out j (mcs (upto (rci msg l) j))) ∧ Hid (IRow wr g1 (nms msg))) (fun _ v _ => 35 - (intOf v).toNat)
  case atStart => exact ⟨0, Nat.zero_le _, rfl, HK, World.ownsRow_nil _ _ _ _, HI⟩
  case round =>
    obtain ⟨j, hj, rfl, HK, HO, HI⟩ := hrel
    by_cases hlt : j < 35
    · have i0 : (0 : Int) ≤ (j : Int) := by omega
      have i1 : (j : Int) < 35 := by omega
      obtain ⟨z0, z1, z2, z3, ez, _⟩ := HE.out j hlt
      have hg := List.getElem?_eq_getElem (l := l) (i := j) (by rw [HL.out]; exact hlt)
      have ob := HR.out.ok _ (List.getElem_mem (l := l) (n := j) (by rw [HL.out]; exact hlt))
      obtain ⟨b0, b1, b2, b3, eb, _⟩ := ok4 ob
      rw [eb] at hg ob
      obtain ⟨u0, u1, u2, u3⟩ := (HR.out.oldn HK.out).four hg
      have hd := HN.out j
      have hc := HI.out.at_ j (by rw [HNL.out]; exact hlt)
      have ew : wk (15 - (nms msg).getD j 0) [b0, b1, b2, b3] = [z0, z1, z2, z3] := by
        have hgd : l.getD j [] = [b0, b1, b2, b3] := by rw [List.getD_eq_getElem?_getD, hg]; rfl
        rw [← ez, rci, hgd]
      obtain ⟨d, ed⟩ : ∃ d, (nms msg).getD j 0 = d := ⟨_, rfl⟩
      rw [ed] at hd hc ew
      have cw := fun W => walk_ref [b0, b1, b2, b3] (15 - d) W ob (by omega)
      rw [ew, ag4, ag4, show ((15 - d : Nat) : Int) = 15 - (d : Int) by omega] at cw
      have CW := Lib.hid cw
      have hw15 : IntKind.i64.wrap (15 - (d : Int)) = 15 - (d : Int) := by rw [IntKind.wrap_i64]; omega
      have HZ := Lib.hid (upto_cells (rci msg l) j ez)
      clear cw ob eb ew ez hg ed
      replace HK : Hid (Ks w wr.drew [y0, y1, y2, y3]) := Lib.hid HK.out.drew
      replace HO : Hid (wr.drew.ownsRow (w.heap.size + 2) 24 4 _ j (mcs (upto (rci msg l) j))) := Lib.hid HO.out.drew
      replace HI := Lib.hid HI.out.drew
      go_wp2_with fail
      go_region_law (first
        | (go_simp; go_at_call 40; (with_reducible refine (CW.out _).mono ?_); rintro e w3 ⟨rfl, hb⟩; replace HK : Hid (Ks w w3 [y0, y1, y2, y3]) := Lib.hid (HK.out.after hb); replace HO := Lib.hid (own_keep HO.out hb); replace HI := Lib.hid (HI.out.kept hb); clear hb)
        | (refine step_append_lies _ (by rfl) _ _ _ (by rfl) (w.heap.size + 2) 24 q0 _ 4 16 Tryd.underlying35 hz hz0 hz1 hz2 rfl (by omega) _ j (mcs (upto (rci msg l) j)) (by rfl) (HO.out.alloc _)
            ⟨_, 0, none⟩ 1 1 [.int .u32 z0, .int .u32 z1, .int .u32 z2, .int .u32 z3] (by rfl) (by rfl)
            (World.news_of_block (cs := #[.int .u32 z0, .int .u32 z1, .int .u32 z2, .int .u32 z3]) (t := 24) (fr := (0, 0)) (heap_alloc_new _ _)) (by simp [Value.oneCell'])
            (by omega) (by unfold maxLen; omega) (by omega) (by have := HK.out.lt 1 rfl; simp; omega) _ rfl ?_; intro gg cap2 w4 hown1 hgrow1 hat hlt1))
      all_goals
        rw [← HZ.out] at hown1
        have HO2 := Lib.hid hown1
        have HK2 := Lib.hid (HK.out.grow _ hgrow1 (fun g hg => (HO.out.lt g hg).1))
        have HI2 := Lib.hid ((HI.out.kept ((Below.refl _ _).alloc (Nat.le_refl _) _)).grow hgrow1 (e := 24) (by decide) (own_ty (HO.out.alloc _)))
        clear hown1 hgrow1 hat
        go_wp2_with fail
        go_roundw
        case rel => exact ⟨j + 1, by omega, by go_num, HK2, HO2, HI2⟩
        case measure => simp [intOf]; omega
    · obtain rfl : j = 35 := by omega
      obtain ⟨g, cap, rfl, hg, _⟩ := own_shape4 HO.out (by omega)
      have HD := Lib.hid (DRow.own HO.out (HUO.out 35 (Nat.le_refl _)))
      go_wp2_with fail
      refine (C2.out _ _ _ HD.out).mono ?_
      rintro e w4 ⟨rfl, hb⟩
      replace HK : Hid (Ks w w4 [y0, y1, y2, y3]) := Lib.hid (HK.out.after hb)
      clear hb
      obtain ⟨b0, b1, b2, b3, d0, d1, d2, d3⟩ := cells4 (HK.out.at 1 rfl)
      have HRR := Lib.hid (row4 (HK.out.at 1 rfl) (.int .u32 p0) (.int .u32 p1) (.int .u32 p2) (.int .u32 p3))
      have HEE := Lib.hid (HK.out.put4 1 rfl (.inr (by omega)) (.int .u32 p0) (.int .u32 p1) (.int .u32 p2) (.int .u32 p3)).be.plain
      go_wp2_with fail
      exact bodyPost_ret (v := .tuple #[.agg #[.int .u32 p0, .int .u32 p1, .int .u32 p2, .int .u32 p3], .bool true]) (by
        obtain ⟨k0, k1, k2, k3, _⟩ := cells4 HRR.out
        simp [results, go_sem, k0, k1, k2, k3]) rfl ⟨rfl, HEE.out⟩
end Go.Proofs.YtfbefenagnlnfaaDoor
