/- The reference of layer 2: the contracts of its digits, its Text, its Load and its Parse. -/
import Derived.Test.YtaogndcaabnboaaDoorHexB
import Derived.OwnWalk
import Derived.Laws.BytesArg
import Derived.Laws.IdiomStrings
import Derived.Deep.AppendLies
import Derived.Deep.RegionHeld3
set_option linter.unusedVariables false
namespace Go.Proofs.YtaogndcaabnboaaDoor
open Go.RowKit

theorem byteCells_len (l : List UInt8) : (Lib.byteCells l).length = l.length := Lib.byteCells_length l
theorem byteCells_append (a b : List UInt8) : Lib.byteCells (a ++ b) = Lib.byteCells a ++ Lib.byteCells b := by simp [Lib.byteCells]
theorem byteCells_one (l : List UInt8) : ∀ u ∈ Lib.byteCells l, u.oneCell' = true := by
  intro u hu
  simp only [Lib.byteCells, List.mem_map] at hu
  obtain ⟨x, _, rfl⟩ := hu
  rfl
/-- string(v) of an own slice of bytes. -/
theorem conv_own {w : World} {B n : Nat} {v : Value} {l : List UInt8} (h : w.ownsRow B 5 1 v n (Lib.byteCells l)) (hn : n = l.length) :
    (convert 39 9 v).run Tryd.prog w = .ok (.string ⟨l.toArray⟩) w := by
  subst hn
  have h2 := h
  obtain ⟨_, ⟨rfl, h0⟩ | ⟨g, cap, cur, rfl, _⟩⟩ := h
  · have hl : l = [] := by simpa using h0
    subst hl
    exact run_convert_bytes_nil w 39 5 Tryd.underlying39 Tryd.underlying5 0 0 9 Tryd.underlying9
  · refine run_convert_bytes_back (P := Tryd.prog) w 39 9 5 ⟨g, 0, none⟩ cap l Tryd.underlying39 Tryd.underlying5 Tryd.underlying9 ?_
    intro j hj
    exact h2.cells (g := g) rfl j _ (by simp [Lib.byteCells, hj])

set_option maxHeartbeats 400000 in
theorem sign_any (n : Nat) (w : World) (hn : n < 16) :
    Calls Tryd.prog 50 #[.int .i64 (n : Int)] w fun e w' => e = .returned (.int .u8 ((sg n).toNat : Int)) ∧ w' = w := by
  by_cases h : n < 10
  · have e : ((sg n).toNat : Int) = 48 + (n : Int) := by
      unfold sg
      rw [if_pos h]
      have : (UInt8.ofNat (48 + n)).toNat = 48 + n := by simp; omega
      rw [this]; omega
    rw [e]
    go_enter Tryd.func50, Tryd.ntmps50
    go_wp2
    go_ret
    exact ⟨ret_int (by omega), rfl⟩
  · have e : ((sg n).toNat : Int) = 87 + (n : Int) := by
      unfold sg
      rw [if_neg h]
      have : (UInt8.ofNat (87 + n)).toNat = 87 + n := by simp; omega
      rw [this]; omega
    rw [e]
    go_enter Tryd.func50, Tryd.ntmps50
    go_wp2
    go_ret
    exact ⟨ret_int (by omega), rfl⟩
set_option maxHeartbeats 800000 in
theorem digit_any (n : Nat) (w : World) (hn : n < 256) :
    Calls Tryd.prog 51 #[.int .u8 (n : Int)] w fun e w' => e = .returned (.int .i64 ((tv n : Int) - 1)) ∧ w' = w := by
  by_cases h1 : 48 ≤ n ∧ n ≤ 57
  · have e : tv n = n - 47 := by unfold tv; rw [if_pos h1]
    rw [e]
    obtain ⟨h1, h2⟩ := h1
    go_enter Tryd.func51, Tryd.ntmps51
    go_wp2
    go_ret
    exact ⟨ret_int (by omega), rfl⟩
  · by_cases h2 : 65 ≤ n ∧ n ≤ 70
    · have e : tv n = n - 54 := by unfold tv; rw [if_neg h1, if_pos h2]
      rw [e]
      obtain ⟨h3, h4⟩ := h2
      go_enter Tryd.func51, Tryd.ntmps51
      go_wp2
      go_ret
      exact ⟨ret_int (by omega), rfl⟩
    · by_cases h3 : 97 ≤ n ∧ n ≤ 102
      · have e : tv n = n - 86 := by unfold tv; rw [if_neg h1, if_neg h2, if_pos h3]
        rw [e]
        obtain ⟨h4, h5⟩ := h3
        go_enter Tryd.func51, Tryd.ntmps51
        go_wp2
        go_ret
        exact ⟨ret_int (by omega), rfl⟩
      · have e : tv n = 0 := by unfold tv; rw [if_neg h1, if_neg h2, if_neg h3]
        rw [e]
        go_enter Tryd.func51, Tryd.ntmps51
        go_wp2
        all_goals
          go_ret
          exact ⟨rfl, rfl⟩

theorem hx_cells (l : List UInt8) (c : UInt8) : Lib.byteCells l ++ [.int .u8 ((sg (c.toNat / 16)).toNat : Int), .int .u8 ((sg (c.toNat % 16)).toNat : Int)] = Lib.byteCells (l ++ hx c) := by
  rw [byteCells_append]
  rfl
theorem wrap_small (z : Int) (h0 : 0 ≤ z) (h1 : z < 4294967296) : IntKind.i64.wrap z = z := by
  rw [IntKind.wrap_i64]; omega
theorem wrap_quo (n : Nat) (h : n < 256) : IntKind.i64.wrap ((IntKind.i64.wrap (n : Int)).tdiv 16) = ((n / 16 : Nat) : Int) := by
  rw [wrap_small (n : Int) (by omega) (by omega), Int.tdiv_eq_ediv_of_nonneg (by omega), wrap_small _ (by omega) (by omega)]
  omega
theorem wrap_rem (n : Nat) (h : n < 256) : (IntKind.i64.wrap (n : Int)).tmod 16 = ((n % 16 : Nat) : Int) := by
  rw [wrap_small (n : Int) (by omega) (by omega), Int.tmod_eq_emod_of_nonneg (by omega)]
  omega

set_option maxRecDepth 100000 in
set_option maxHeartbeats 3200000 in
theorem text_ref (s : ByteArray) (w : World) (hs : s.size ≤ 1073741824) :
    Calls Tryd.prog 40 #[.string s] w fun e w' => e = .returned (.string ⟨(txt s.data.toList).toArray⟩) ∧ Below w.heap.size w w' := by
  obtain ⟨i0, hi, hz0, hz1, hz2⟩ := info_parts info5
  go_enter Tryd.func40, Tryd.ntmps40
  go_wp2_with fail
  go_loopw [3, 4] (fun out si wr => ∃ (k : Nat) (l : List UInt8), k ≤ s.size ∧ si = .int .i64 k ∧ Hid (l ++ txt (s.data.toList.drop k) = txt s.data.toList) ∧ l.length = 2 * k ∧
      Hid (wr.ownsRow w.heap.size 5 1 out (2 * k) (Lib.byteCells l)) ∧ Below w.heap.size w wr) (fun _ si _ => s.size - (intOf si).toNat)
  case atStart => exact ⟨0, [], Nat.zero_le _, rfl, rfl, rfl, World.ownsRow_nil _ _ _ _, Below.refl _ _⟩
  case round =>
    obtain ⟨k, l, hk, rfl, HX, hl, HO, hnx⟩ := hrel
    by_cases hlt : k < s.size
    · have HX2 := HX.out
      rw [drop_cons s k hlt, txt, ← List.append_assoc] at HX2
      have HX3 := Lib.hid HX2
      clear HX2
      obtain ⟨c, hc⟩ : ∃ c, s[k] = c := ⟨_, rfl⟩
      rw [hc] at HX3
      have hc8 : c.toNat < 256 := c.toNat_lt
      have HC := Lib.hid (hx_cells l c)
      have hi0 : (0 : Int) ≤ (k : Int) := by omega
      have hi1 : (k : Int) < (s.size : Int) := by omega
      have HQ := Lib.hid (wrap_quo c.toNat hc8)
      have HR := Lib.hid (wrap_rem c.toNat hc8)
      have HS := Lib.hid hnx.size
      go_wp2_with fail
      go_region_held3 (fun _ => True) (exact trivial)
        (first
          | (go_at_call 50; rw [HQ.out]; refine (sign_any (c.toNat / 16) _ (by omega)).mono ?_; rintro e w' ⟨rfl, rfl⟩)
          | (go_at_call 50; rw [HR.out]; refine (sign_any (c.toNat % 16) _ (by omega)).mono ?_; rintro e w' ⟨rfl, rfl⟩)
          | (refine step_append_lies _ (by rfl) _ _ _ (by rfl) w.heap.size 5 i0 _ 1 1 Tryd.underlying39 hi hz0 hz1 hz2 rfl (by omega) _ (2 * k) (Lib.byteCells l) (by rfl) ((HO.out.alloc _).drew)
              ⟨wr.heap.size, 0, none⟩ 2 2 [.int .u8 ((sg (c.toNat / 16)).toNat : Int), .int .u8 ((sg (c.toNat % 16)).toNat : Int)] (by rfl) (by rfl)
              (World.news_of_block (cs := #[.int .u8 ((sg (c.toNat / 16)).toNat : Int), .int .u8 ((sg (c.toNat % 16)).toNat : Int)]) (t := 5) (fr := (0, 0)) (heap_alloc_new wr _)) (by simp [Value.oneCell'])
              (by omega) (by unfold maxLen; omega) (by omega) (by have := HS.out; simp; omega) (wr.heap.size + 1) (by simp) ?_; intro gg cap w1 hown1 hgrow hat hlt1))
      all_goals
        have hown2 := hown1
        rw [HC.out] at hown2
        have HO2 := Lib.hid hown2
        have hb2 := (((Below.refl w.heap.size wr).alloc hnx.size _).drew.grown hgrow (by have := hnx.size; simp; omega) (fun k hk => (HO.out.lt k hk).1))
        clear hown1 hgrow hown2
        go_wp2_with fail
        go_roundw
        case rel => exact ⟨k + 1, l ++ hx c, by omega, by go_num, HX3, by simp [hx]; omega, by rw [show 2 * (k + 1) = 2 * k + 2 by omega]; exact HO2, hnx.trans hb2⟩
        case measure => simp [intOf]; omega
    · obtain rfl : k = s.size := by omega
      have HX2 := HX.out
      rw [drop_all, txt, List.append_nil] at HX2
      subst HX2
      have hcv := conv_own HO.out hl.symm
      go_wp2
      go_ret
      exact ⟨rfl, hnx⟩

theorem digit_no (n : Nat) (w : World) (hn : n < 256) (h : tv n = 0) :
    Calls Tryd.prog 51 #[.int .u8 (n : Int)] w fun e w' => e = .returned (.int .i64 (-1)) ∧ w' = w := by
  have := digit_any n w hn
  rw [h] at this
  exact this
theorem digit_yes (n v : Nat) (w : World) (hn : n < 256) (h : tv n = v + 1) :
    Calls Tryd.prog 51 #[.int .u8 (n : Int)] w fun e w' => e = .returned (.int .i64 (v : Int)) ∧ w' = w := by
  have := digit_any n w hn
  rw [h, show ((v + 1 : Nat) : Int) - 1 = (v : Int) by omega] at this
  exact this
set_option maxHeartbeats 1600000 in
theorem load_ref (s : ByteArray) (w : World) (hs : s.size ≤ 1073741824) :
    Calls Tryd.prog 52 #[.string s] w fun e w' => e = .returned (.string ⟨(load s.data.toList).toArray⟩) ∧ Below w.heap.size w w' := by
  obtain ⟨i0, hi, hz0, hz1, hz2⟩ := info_parts info5
  go_enter Tryd.func52, Tryd.ntmps52
  go_wp2_with fail
  go_loopw [3, 4, 5, 6] (fun out sn sh si wr => ∃ (k x : Nat) (l : List UInt8) (note half : Bool) (h : Int), k ≤ s.size ∧ si = .int .i64 k ∧ sn = .bool note ∧ sh = .int .i64 h ∧ ((half = false ∧ h = -1) ∨ (half = true ∧ h = (x : Int))) ∧ x < 16 ∧
      Hid (l ++ lds note half x (s.data.toList.drop k) = load s.data.toList) ∧ l.length ≤ k ∧
      Hid (wr.ownsRow w.heap.size 5 1 out l.length (Lib.byteCells l)) ∧ Below w.heap.size w wr) (fun _ _ _ si _ => s.size - (intOf si).toNat)
  case atStart => exact ⟨0, 0, [], false, false, -1, Nat.zero_le _, rfl, rfl, rfl, .inl ⟨rfl, rfl⟩, by omega, rfl, Nat.zero_le _, World.ownsRow_nil _ _ _ _, Below.refl _ _⟩
  case round =>
    obtain ⟨k, x, l, note, half, h, hk, rfl, rfl, rfl, hh, hx16, HX, hl, HO, hnx⟩ := hrel
    by_cases hlt : k < s.size
    · have HX2 := HX.out
      rw [drop_cons s k hlt] at HX2
      obtain ⟨c, hc⟩ : ∃ c, s[k] = c := ⟨_, rfl⟩
      rw [hc] at HX2
      have hc8 : c.toNat < 256 := c.toNat_lt
      by_cases h35 : c.toNat = 35
      · have H0 : Hid (tv c.toNat = 0) := by show _ = _; rw [h35]; rfl
        have HX3 := Lib.hid (lds_step_skip HX2 (note' := true) (by rw [h35]; rfl) (.inl rfl))
        have e1 : ((c.toNat : Int) == 35) = true := by rw [h35]; rfl
        have e2 : ((c.toNat : Int) == 10) = false := by rw [h35]; rfl
        have HH := Lib.hid hh
        clear HX2 h35 hh
        go_wp2_with fail
        refine (digit_no c.toNat _ hc8 H0.out).mono ?_
        rintro e w2 ⟨rfl, rfl⟩
        go_wp2
        go_roundw
        case rel => exact ⟨k + 1, x, l, true, half, h, by omega, by go_num, rfl, rfl, HH.out, hx16, HX3, by omega, HO, hnx⟩
        case measure => simp [intOf]; omega
      · by_cases h10 : c.toNat = 10
        · have H0 : Hid (tv c.toNat = 0) := by show _ = _; rw [h10]; rfl
          have HX3 := Lib.hid (lds_step_skip HX2 (note' := false) (by rw [h10]; rfl) (.inr (by rw [h10]; rfl)))
          have e1 : ((c.toNat : Int) == 35) = false := by rw [h10]; rfl
          have e2 : ((c.toNat : Int) == 10) = true := by rw [h10]; rfl
          have HH := Lib.hid hh
          clear HX2 h10 h35 hh
          go_wp2_with fail
          refine (digit_no c.toNat _ hc8 H0.out).mono ?_
          rintro e w2 ⟨rfl, rfl⟩
          go_wp2
          go_roundw
          case rel => exact ⟨k + 1, x, l, false, half, h, by omega, by go_num, rfl, rfl, HH.out, hx16, HX3, by omega, HO, hnx⟩
          case measure => simp [intOf]; omega
        · have e1 : ((c.toNat : Int) == 35) = false := by rw [beq_eq_false_iff_ne]; omega
          have e2 : ((c.toNat : Int) == 10) = false := by rw [beq_eq_false_iff_ne]; omega
          have hkeep := nx_keep note c.toNat h35 h10
          clear h35 h10
          by_cases h0 : tv c.toNat = 0
          · have HX3 := Lib.hid (lds_step_skip HX2 hkeep (.inr h0))
            have H0 := Lib.hid h0
            have HH := Lib.hid hh
            clear HX2 h0 hkeep hh
            cases note
            all_goals
              go_wp2_with fail
              refine (digit_no c.toNat _ hc8 H0.out).mono ?_
              rintro e w2 ⟨rfl, rfl⟩
              go_wp2
              go_roundw
              case rel => exact ⟨k + 1, x, l, _, half, h, by omega, by go_num, rfl, rfl, HH.out, hx16, HX3, by omega, HO, hnx⟩
              case measure => simp [intOf]; omega
          · obtain ⟨v, hv⟩ : ∃ v, tv c.toNat = v + 1 := ⟨tv c.toNat - 1, by omega⟩
            have hv16 : v < 16 := by have := tv_le c.toNat; omega
            have H0 := Lib.hid hv
            cases note with
            | true =>
              have HX3 := Lib.hid (lds_step_skip HX2 hkeep (.inl rfl))
              have HH := Lib.hid hh
              clear HX2 h0 hkeep hv hh
              go_wp2_with fail
              refine (digit_yes c.toNat v _ hc8 H0.out).mono ?_
              rintro e w2 ⟨rfl, rfl⟩
              go_wp2
              go_roundw
              case rel => exact ⟨k + 1, x, l, true, half, h, by omega, by go_num, rfl, rfl, HH.out, hx16, HX3, by omega, HO, hnx⟩
              case measure => simp [intOf]; omega
            | false =>
              rcases hh with ⟨rfl, rfl⟩ | ⟨rfl, rfl⟩
              · have HX3 := Lib.hid (lds_step_fst (y := 0) HX2 hkeep hv)
                clear HX2 h0 hkeep hv
                go_wp2_with fail
                refine (digit_yes c.toNat v _ hc8 H0.out).mono ?_
                rintro e w2 ⟨rfl, rfl⟩
                go_wp2
                go_roundw
                case rel => exact ⟨k + 1, v, l, false, true, v, by omega, by go_num, rfl, rfl, .inr ⟨rfl, rfl⟩, hv16, HX3, by omega, HO, hnx⟩
                case measure => simp [intOf]; omega
              · have HX3 := Lib.hid (lds_step_snd HX2 hkeep hv)
                clear HX2 h0 hkeep hv
                go_wp2_with fail
                refine (digit_yes c.toNat v _ hc8 H0.out).mono ?_
                rintro e w2 ⟨rfl, rfl⟩
                have HB := Lib.hid hnx.size
                have hval : ((16 : Int) * (x : Int) + (v : Int)) = ((UInt8.ofNat (16 * x + v)).toNat : Int) := by
                  have : (UInt8.ofNat (16 * x + v)).toNat = 16 * x + v := by simp; omega
                  rw [this]; omega
                have HV := Lib.hid hval
                clear hval
                go_wp2_with (at_builtin; refine wpList_append_own _ rfl _ _ 39 rfl w.heap.size 5 i0 (.int .u8 0) 1 1 Tryd.underlying39 hi hz0 hz1 hz2 rfl (by decide) _ _ _ rfl (HO.out.alloc _) ⟨w2.heap.size, 0, none⟩ 1 1 [.int .u8 (16 * (x : Int) + (v : Int))] rfl rfl (one_new _ _ _) (by simp [Value.oneCell']) ?c3 ?c4 ?c5 ?_)
                case c3 => unfold maxLen; omega
                case c4 => omega
                case c5 => have := HB.out; simp; omega
                intro v' w1 hown1 hgrow1 _
                have hbel := (hnx.alloc hnx.size _).grown hgrow1 (by simp; have := hnx.size; omega) (fun k hk => (HO.out.lt k hk).1)
                rw [HV.out, byteCells_snoc] at hown1
                have HO1 := Lib.hid hown1
                clear hown1 hgrow1
                go_wp2
                go_roundw
                case rel => exact ⟨k + 1, v, l ++ [UInt8.ofNat (16 * x + v)], false, false, -1, by omega, by go_num, rfl, rfl, .inl ⟨rfl, rfl⟩, hv16, HX3, by simp; omega, by rw [List.length_append]; exact HO1, hbel⟩
                case measure => simp [intOf]; omega
    · obtain rfl : k = s.size := by omega
      have HX2 := HX.out
      rw [drop_all] at HX2
      simp only [lds, List.append_nil] at HX2
      subst HX2
      have hcv := conv_own HO.out rfl
      go_wp2
      go_ret
      exact ⟨rfl, hnx⟩

theorem nd_full_or (s : List UInt8) : nd s = s.length ∨ nd s < s.length := by have := nd_le s; omega
theorem nd_lt (l : List UInt8) (k : Nat) (h : k < nd l) : ∀ x, l[k]? = some x → tv x.toNat ≠ 0 := by
  induction l generalizing k with
  | nil => simp [nd] at h
  | cons c r ih =>
    intro x hx
    simp only [nd] at h
    split at h
    · omega
    · rename_i hc
      cases k with
      | zero => simp at hx; subst hx; exact hc
      | succ k => exact ih k (by omega) x (by simpa using hx)

set_option maxHeartbeats 1600000 in
theorem parse_ref_bad (s : ByteArray) (w : World) (hs : s.size ≤ 1073741824) (h : nd s.data.toList < s.size ∨ nd s.data.toList % 2 ≠ 0) :
    Calls Tryd.prog 41 #[.string s] w fun e w' => e = .returned (.tuple #[.string ByteArray.empty, .int .i64 (nd s.data.toList : Int), .int .i64 3]) ∧ Below w.heap.size w w' := by
  have HH := Lib.hid h
  clear h
  go_enter Tryd.func41, Tryd.ntmps41
  go_wp2_with fail
  go_loop [5] (fun si => ∃ k : Nat, k ≤ s.size ∧ si = .int .i64 k ∧ Hid (nd s.data.toList = k + nd (s.data.toList.drop k))) (fun si => s.size - (intOf si).toNat)
  case atStart => exact ⟨0, Nat.zero_le _, rfl, by show _ = _; simp⟩
  case round =>
    obtain ⟨k, hk, rfl, HX⟩ := hrel
    by_cases hlt : k < s.size
    · have HX2 := HX.out
      rw [drop_cons s k hlt] at HX2
      obtain ⟨c, hc⟩ : ∃ c, s[k] = c := ⟨_, rfl⟩
      rw [hc] at HX2
      have hc8 : c.toNat < 256 := c.toNat_lt
      by_cases h0 : tv c.toNat = 0
      · rw [nd_no _ _ h0, Nat.add_zero] at HX2
        have HX3 := Lib.hid HX2
        have H0 := Lib.hid h0
        clear HX2 h0
        go_wp2_with fail
        refine (digit_no c.toNat _ hc8 H0.out).mono ?_
        rintro e w2 ⟨rfl, rfl⟩
        go_wp2
        go_ret3
        exact ⟨ret_prs rfl (by rw [HX3.out]) rfl, Below.refl _ _⟩
      · obtain ⟨v, hv⟩ : ∃ v, tv c.toNat = v + 1 := ⟨tv c.toNat - 1, by omega⟩
        rw [nd_cons _ _ h0] at HX2
        have HX3 := Lib.hid HX2
        have H0 := Lib.hid hv
        clear HX2 h0 hv
        go_wp2_with fail
        refine (digit_yes c.toNat v _ hc8 H0.out).mono ?_
        rintro e w2 ⟨rfl, rfl⟩
        go_wp2
        go_round
        case rel => exact ⟨k + 1, by omega, by go_num, by show _ = _; rw [HX3.out]; omega⟩
        case measure => simp [intOf]; omega
    · obtain rfl : k = s.size := by omega
      have HX2 := HX.out
      rw [drop_all] at HX2
      simp only [nd, Nat.add_zero] at HX2
      have hodd := HH.out
      rw [HX2] at hodd
      have e1 : ((s.size : Int) % 2 == 1) = true := by rw [beq_iff_eq]; omega
      have HX3 := Lib.hid HX2
      clear HX2 hodd
      go_wp2
      go_ret3
      exact ⟨ret_prs rfl (by rw [HX3.out]) rfl, Below.refl _ _⟩
set_option maxHeartbeats 1600000 in
theorem parse_ref_ok (s : ByteArray) (w : World) (hs : s.size ≤ 1073741824) (h : nd s.data.toList = s.size) (h2 : s.size % 2 = 0) :
    Calls Tryd.prog 41 #[.string s] w fun e w' => e = .returned (.tuple #[.string ⟨(load s.data.toList).toArray⟩, .int .i64 0, .int .i64 0]) ∧ Below w.heap.size w w' := by
  have HH := Lib.hid h
  have HL := Lib.hid (load_ref s w hs)
  have HN := Lib.hid (nd_lt s.data.toList)
  clear h
  have e1 : ((s.size : Int) % 2 == 1) = false := by rw [beq_eq_false_iff_ne]; omega
  go_enter Tryd.func41, Tryd.ntmps41
  go_wp2_with fail
  go_loop [5] (fun si => ∃ k : Nat, k ≤ s.size ∧ si = .int .i64 k) (fun si => s.size - (intOf si).toNat)
  case atStart => exact ⟨0, Nat.zero_le _, rfl⟩
  case round =>
    obtain ⟨k, hk, rfl⟩ := hrel
    by_cases hlt : k < s.size
    · obtain ⟨c, hc⟩ : ∃ c, s[k] = c := ⟨_, rfl⟩
      have hc8 : c.toNat < 256 := c.toNat_lt
      have h0 : tv c.toNat ≠ 0 := HN.out k (by rw [HH.out]; exact hlt) c (by
        have hl : k < s.data.toList.length := by simpa using hlt
        rw [List.getElem?_eq_getElem hl, ← hc]; rfl)
      obtain ⟨v, hv⟩ : ∃ v, tv c.toNat = v + 1 := ⟨tv c.toNat - 1, by omega⟩
      have H0 := Lib.hid hv
      clear h0 hv
      go_wp2_with fail
      refine (digit_yes c.toNat v _ hc8 H0.out).mono ?_
      rintro e w2 ⟨rfl, rfl⟩
      go_wp2
      go_round
      case rel => exact ⟨k + 1, by omega, by go_num⟩
      case measure => simp [intOf]; omega
    · obtain rfl : k = s.size := by omega
      go_wp2_with fail
      refine HL.out.mono ?_
      rintro e w3 ⟨rfl, b3⟩
      go_wp2
      go_ret3
      exact ⟨rfl, b3⟩
theorem parse_ref (s : ByteArray) (w : World) (hs : s.size ≤ 1073741824) :
    Calls Tryd.prog 41 #[.string s] w fun e w' => e = .returned (.tuple #[.string ⟨(prs s.data.toList).1.toArray⟩, .int .i64 ((prs s.data.toList).2.1 : Int), .int .i64 ((prs s.data.toList).2.2 : Int)]) ∧ Below w.heap.size w w' := by
  unfold prs
  split
  · rename_i h
    rw [list_size] at h
    exact parse_ref_bad s w hs h
  · rename_i h
    rw [list_size] at h
    have := nd_le s.data.toList
    rw [list_size] at this
    exact parse_ref_ok s w hs (by omega) (by omega)
end Go.Proofs.YtaogndcaabnboaaDoor
