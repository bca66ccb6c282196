/- Package hex: the contracts of Text, digitsAhead, Load and Parse: what each returns, of any text of at most 2^30 bytes. -/
import Derived.Test.YtflggcnojfmlmaaDoorHexA
import Derived.Test.YtflggcnojfmlmaaDoorStr
set_option linter.unusedVariables false
namespace Go.Proofs.YtflggcnojfmlmaaDoor
open Go.RowKit

/-- A new builder. -/
theorem builder_new (w : World) : (w.alloc (.cells #[.pointer none, .slice none 0 0] 57)).heap[w.heap.size]? = some (.cells #[.pointer none, .slice none 0 0] 57 (0, 0)) := heap_alloc_new w _
set_option maxHeartbeats 800000 in
theorem text_hex (s : ByteArray) (w : World) (hs : s.size ≤ 1073741824) (ht : Tabs w) :
    Calls Tryd.prog 17 #[.string s] w fun e w' => e = .returned (.string ⟨(txt s.data.toList).toArray⟩) ∧ Below w.heap.size w w' := by
  have HT := Lib.hid ht.at
  clear ht
  go_enter Tryd.func17, Tryd.ntmps17
  go_wp2_with fail
  refine (Tryd.Builder_Grow_fresh w.heap.size w.heap.size (2 * s.size) _ (Nat.le_refl _) (builder_new w) (by simp) (by omega)).mono ?_
  rintro e w1 ⟨rfl, h1, b1⟩
  have hb0 : Below w.heap.size w w1 := ((Below.refl _ w).alloc (Nat.le_refl _) _).trans (b1.mono (by simp))
  have HI := Lib.hid (Lib.IsBuilderF.of (.inr h1))
  clear h1 b1
  go_wp2_with fail
  go_loopw [11] (fun si wr => ∃ (k : Nat) (l : List UInt8), k ≤ s.size ∧ si = .int .i64 k ∧ Hid (l ++ txt (s.data.toList.drop k) = txt s.data.toList) ∧ l.length ≤ 2 * k ∧
      Hid (Lib.IsBuilderF 57 5 w.heap.size w.heap.size (Lib.byteCells l) wr) ∧ Below w.heap.size w wr) (fun si _ => s.size - (intOf si).toNat)
  case atStart => exact ⟨0, [], Nat.zero_le _, rfl, rfl, Nat.zero_le _, HI, hb0⟩
  case round =>
    obtain ⟨k, l, hk, rfl, HX, hl, HI2, hnx⟩ := hrel
    by_cases hlt : k < s.size
    · have HT2 := Lib.hid (HT.out.below hnx)
      have HX2 := HX.out
      rw [drop_cons s k hlt, txt, ← List.append_assoc] at HX2
      have HX3 := Lib.hid HX2
      clear HX2
      obtain ⟨c, hc⟩ : ∃ c, s[k] = c := ⟨_, rfl⟩
      rw [hc] at HX3
      go_wp2_with fail
      refine (writeByte_any w.heap.size w.heap.size l c _ HI2.out (by omega) hnx.size HT2.out).mono ?_
      rintro e w2 ⟨rfl, h2, b2⟩
      have H2 := Lib.hid h2
      clear h2
      go_wp2_with fail
      go_roundw
      case rel => exact ⟨k + 1, l ++ hx c, by omega, by go_num, HX3, by simp [hx]; omega, H2, hnx.trans b2⟩
      case measure => simp [intOf]; omega
    · obtain rfl : k = s.size := by omega
      have HX2 := HX.out
      rw [drop_all, txt, List.append_nil] at HX2
      subst HX2
      go_wp2_with fail
      refine (Tryd.Builder_String_any_k w.heap.size w.heap.size _ _ HI2.out hnx.size).mono ?_
      rintro e w2 ⟨rfl, h2, b2, k2⟩
      go_wp2
      go_ret
      exact ⟨rfl, hnx.trans b2⟩

theorem nd_no (c : UInt8) (r : List UInt8) (h : tv c.toNat = 0) : nd (c :: r) = 0 := by simp [nd, h]
theorem lds_step_skip {note note' half : Bool} {x : Nat} {c : UInt8} {r l t : List UInt8} (h : l ++ lds note half x (c :: r) = t) (h1 : nx note c.toNat = note') (h2 : note' = true ∨ tv c.toNat = 0) : l ++ lds note' half x r = t := by
  rw [← h, lds_skip _ _ _ _ _ (by rw [h1]; exact h2), h1]
theorem lds_step_fst {x y v : Nat} {c : UInt8} {r l t : List UInt8} (h : l ++ lds false false x (c :: r) = t) (h1 : nx false c.toNat = false) (h2 : tv c.toNat = v + 1) : l ++ lds false true v r = t := by
  rw [← h]
  simp only [lds]
  rw [h1, if_neg (by simp [h2]), h2]
  simp
theorem lds_step_snd {x v : Nat} {c : UInt8} {r l t : List UInt8} (h : l ++ lds false true x (c :: r) = t) (h1 : nx false c.toNat = false) (h2 : tv c.toNat = v + 1) : (l ++ [UInt8.ofNat (16 * x + v)]) ++ lds false false v r = t := by
  rw [← h]
  simp only [lds]
  rw [h1, if_neg (by simp [h2]), h2]
  simp

set_option maxHeartbeats 800000 in
theorem digits_hex (s : ByteArray) (w : World) (hs : s.size ≤ 1073741824) (ht : Tabs w) :
    Calls Tryd.prog 23 #[.string s] w fun e w' => e = .returned (.int .i64 (nd s.data.toList : Int)) ∧ w' = w := by
  have HT := Lib.hid ht
  clear ht
  go_enter Tryd.func23, Tryd.ntmps23
  go_wp2_with fail
  go_loop [8] (fun si => ∃ k : Nat, k ≤ s.size ∧ si = .int .i64 k ∧ Hid (nd s.data.toList = k + nd (s.data.toList.drop k))) (fun si => s.size - (intOf si).toNat)
  case atStart => exact ⟨0, Nat.zero_le _, rfl, by show _ = _; simp⟩
  case round =>
    obtain ⟨k, hk, rfl, HX⟩ := hrel
    by_cases hlt : k < s.size
    · have HX2 := HX.out
      rw [drop_cons s k hlt] at HX2
      obtain ⟨c, hc⟩ : ∃ c, s[k] = c := ⟨_, rfl⟩
      rw [hc] at HX2
      have hc8 : c.toNat < 256 := c.toNat_lt
      by_cases h0 : tv c.toNat = 0
      · rw [nd_no _ _ h0, Nat.add_zero] at HX2
        have HX3 := Lib.hid HX2
        have H0 := Lib.hid h0
        clear HX2 h0
        go_wp2_with fail
        refine (value_no c.toNat _ hc8 HT.out H0.out).mono ?_
        rintro e w2 ⟨rfl, rfl⟩
        go_wp2
        go_ret
        exact ⟨ret_int (by rw [HX3.out]), rfl⟩
      · obtain ⟨v, hv⟩ : ∃ v, tv c.toNat = v + 1 := ⟨tv c.toNat - 1, by omega⟩
        rw [nd_cons _ _ h0] at HX2
        have HX3 := Lib.hid HX2
        have H0 := Lib.hid hv
        clear HX2 h0 hv
        go_wp2_with fail
        refine (value_yes c.toNat v _ HT.out H0.out).mono ?_
        rintro e w2 ⟨rfl, rfl⟩
        go_wp2
        go_round
        case rel => exact ⟨k + 1, by omega, by go_num, by show _ = _; rw [HX3.out]; omega⟩
        case measure => simp [intOf]; omega
    · obtain rfl : k = s.size := by omega
      have HX2 := HX.out
      rw [drop_all] at HX2
      simp only [nd, Nat.add_zero] at HX2
      have HX3 := Lib.hid HX2
      clear HX2
      go_wp2
      go_ret
      exact ⟨ret_int (by rw [HX3.out]), rfl⟩

theorem nib_or : ∀ x : Nat, x < 16 → ∀ v : Nat, v < 16 → bits BinOp.or IntKind.u8 ((x : Int) * 16) (v : Int) = ((UInt8.ofNat (16 * x + v)).toNat : Int) := by decide +kernel

set_option maxHeartbeats 1600000 in
theorem load_hex (s : ByteArray) (w : World) (hs : s.size ≤ 1073741824) (ht : Tabs w) :
    Calls Tryd.prog 24 #[.string s] w fun e w' => e = .returned (.string ⟨(load s.data.toList).toArray⟩) ∧ Below w.heap.size w w' := by
  have HT := Lib.hid ht.at
  clear ht
  go_enter Tryd.func24, Tryd.ntmps24
  go_wp2_with fail
  refine (Tryd.Builder_Grow_fresh w.heap.size w.heap.size (s.size / 2) _ (Nat.le_refl _) (builder_new w) (by simp) (by omega)).mono ?_
  rintro e w1 ⟨rfl, h1, b1⟩
  have hb0 : Below w.heap.size w w1 := ((Below.refl _ w).alloc (Nat.le_refl _) _).trans (b1.mono (by simp))
  have HI := Lib.hid (Lib.IsBuilderF.of (.inr h1))
  clear h1 b1
  go_wp2_with fail
  go_loopw [4, 5, 6, 16] (fun sh sf sc si wr => ∃ (k x : Nat) (l : List UInt8) (note half : Bool), k ≤ s.size ∧ si = .int .i64 k ∧ sc = .bool note ∧ sf = .bool half ∧ sh = .int .u8 (x : Int) ∧ x < 16 ∧
      Hid (l ++ lds note half x (s.data.toList.drop k) = load s.data.toList) ∧ l.length ≤ k ∧
      Hid (Lib.IsBuilderF 57 5 w.heap.size w.heap.size (Lib.byteCells l) wr) ∧ Below w.heap.size w wr) (fun _ _ _ si _ => s.size - (intOf si).toNat)
  case atStart => exact ⟨0, 0, [], false, false, Nat.zero_le _, rfl, rfl, rfl, rfl, by omega, rfl, Nat.zero_le _, HI, hb0⟩
  case round =>
    obtain ⟨k, x, l, note, half, hk, rfl, rfl, rfl, rfl, hx16, HX, hl, HI2, hnx⟩ := hrel
    by_cases hlt : k < s.size
    · have HT2 := Lib.hid (HT.out.below hnx)
      have HX2 := HX.out
      rw [drop_cons s k hlt] at HX2
      obtain ⟨c, hc⟩ : ∃ c, s[k] = c := ⟨_, rfl⟩
      rw [hc] at HX2
      have hc8 : c.toNat < 256 := c.toNat_lt
      by_cases h35 : c.toNat = 35
      · have H0 : Hid (tv c.toNat = 0) := by show _ = _; rw [h35]; rfl
        have HX3 := Lib.hid (lds_step_skip HX2 (note' := true) (by rw [h35]; rfl) (.inl rfl))
        have e1 : ((c.toNat : Int) == 35) = true := by rw [h35]; rfl
        clear HX2 h35
        go_wp2_with fail
        refine (value_no c.toNat _ hc8 HT2.out.toTabs H0.out).mono ?_
        rintro e w2 ⟨rfl, rfl⟩
        go_wp2
        go_roundw
        case rel => exact ⟨k + 1, x, l, true, half, by omega, by go_num, rfl, rfl, rfl, hx16, HX3, by omega, HI2, hnx⟩
        case measure => simp [intOf]; omega
      · by_cases h10 : c.toNat = 10
        · have H0 : Hid (tv c.toNat = 0) := by show _ = _; rw [h10]; rfl
          have HX3 := Lib.hid (lds_step_skip HX2 (note' := false) (by rw [h10]; rfl) (.inr (by rw [h10]; rfl)))
          have e1 : ((c.toNat : Int) == 35) = false := by rw [h10]; rfl
          have e2 : ((c.toNat : Int) == 10) = true := by rw [h10]; rfl
          clear HX2 h10 h35
          go_wp2_with fail
          refine (value_no c.toNat _ hc8 HT2.out.toTabs H0.out).mono ?_
          rintro e w2 ⟨rfl, rfl⟩
          go_wp2
          go_roundw
          case rel => exact ⟨k + 1, x, l, false, half, by omega, by go_num, rfl, rfl, rfl, hx16, HX3, by omega, HI2, hnx⟩
          case measure => simp [intOf]; omega
        · have e1 : ((c.toNat : Int) == 35) = false := by rw [beq_eq_false_iff_ne]; omega
          have e2 : ((c.toNat : Int) == 10) = false := by rw [beq_eq_false_iff_ne]; omega
          have hkeep := nx_keep note c.toNat h35 h10
          clear h35 h10
          by_cases h0 : tv c.toNat = 0
          · have HX3 := Lib.hid (lds_step_skip HX2 hkeep (.inr h0))
            have H0 := Lib.hid h0
            clear HX2 h0 hkeep
            go_wp2_with fail
            refine (value_no c.toNat _ hc8 HT2.out.toTabs H0.out).mono ?_
            rintro e w2 ⟨rfl, rfl⟩
            cases note
            all_goals
              go_wp2
              go_roundw
              case rel => exact ⟨k + 1, x, l, _, half, by omega, by go_num, rfl, rfl, rfl, hx16, HX3, by omega, HI2, hnx⟩
              case measure => simp [intOf]; omega
          · obtain ⟨v, hv⟩ : ∃ v, tv c.toNat = v + 1 := ⟨tv c.toNat - 1, by omega⟩
            have hv16 : v < 16 := by have := tv_le c.toNat; omega
            have H0 := Lib.hid hv
            cases note with
            | true =>
              have HX3 := Lib.hid (lds_step_skip HX2 hkeep (.inl rfl))
              clear HX2 h0 hkeep hv
              go_wp2_with fail
              refine (value_yes c.toNat v _ HT2.out.toTabs H0.out).mono ?_
              rintro e w2 ⟨rfl, rfl⟩
              go_wp2
              go_roundw
              case rel => exact ⟨k + 1, x, l, true, half, by omega, by go_num, rfl, rfl, rfl, hx16, HX3, by omega, HI2, hnx⟩
              case measure => simp [intOf]; omega
            | false =>
              cases half with
              | false =>
                have HX3 := Lib.hid (lds_step_fst (y := 0) HX2 hkeep hv)
                clear HX2 h0 hkeep hv
                go_wp2_with fail
                refine (value_yes c.toNat v _ HT2.out.toTabs H0.out).mono ?_
                rintro e w2 ⟨rfl, rfl⟩
                go_wp2
                go_roundw
                case rel => exact ⟨k + 1, v, l, false, true, by omega, by go_num, rfl, rfl, rfl, hv16, HX3, by omega, HI2, hnx⟩
                case measure => simp [intOf]; omega
              | true =>
                have HX3 := Lib.hid (lds_step_snd HX2 hkeep hv)
                clear HX2 h0 hkeep hv
                go_wp2_with fail
                refine (value_yes c.toNat v _ HT2.out.toTabs H0.out).mono ?_
                rintro e w2 ⟨rfl, rfl⟩
                go_wp2_with fail
                refine (Tryd.bld_WriteByte w.heap.size w.heap.size _ _ _ HI2.out (by rw [Lib.byteCells_length]; omega) hnx.size).mono ?_
                rintro e w3 ⟨rfl, h3, b3, k3⟩
                have H3 := Lib.hid (builder_put h3 (nib_or x hx16 v hv16))
                have hb3 := hnx.trans b3
                clear h3 k3
                go_wp2
                go_roundw
                case rel => exact ⟨k + 1, v, l ++ [UInt8.ofNat (16 * x + v)], false, false, by omega, by go_num, rfl, rfl, rfl, hv16, HX3, by simp; omega, H3, hb3⟩
                case measure => simp [intOf]; omega
    · obtain rfl : k = s.size := by omega
      have HX2 := HX.out
      rw [drop_all] at HX2
      simp only [lds, List.append_nil] at HX2
      subst HX2
      go_wp2_with fail
      refine (Tryd.Builder_String_any_k w.heap.size w.heap.size _ _ HI2.out hnx.size).mono ?_
      rintro e w2 ⟨rfl, h2, b2, k2⟩
      go_wp2
      go_ret
      exact ⟨rfl, hnx.trans b2⟩

theorem ret_prs {s : ByteArray} {n e : Int} {s' : ByteArray} {n' e' : Int} (h : s = s') (h1 : n = n') (h2 : e = e') : Ending.returned (.tuple #[.string s, .int .i64 n, .int .i64 e]) = .returned (.tuple #[.string s', .int .i64 n', .int .i64 e']) := by rw [h, h1, h2]

set_option maxHeartbeats 800000 in
theorem parse_hex_bad (s : ByteArray) (w : World) (hs : s.size ≤ 1073741824) (ht : Tabs w) (h : nd s.data.toList < s.size ∨ nd s.data.toList % 2 ≠ 0) :
    Calls Tryd.prog 14 #[.string s] w fun e w' => e = .returned (.tuple #[.string ByteArray.empty, .int .i64 (nd s.data.toList : Int), .int .i64 3]) ∧ Below w.heap.size w w' := by
  have HD := Lib.hid (digits_hex s w hs ht)
  have hle := nd_le s.data.toList
  rw [list_size] at hle
  obtain ⟨n, hn⟩ : ∃ n, nd s.data.toList = n := ⟨_, rfl⟩
  rw [hn] at HD h hle ⊢
  clear hn ht
  by_cases h1 : n < s.size
  · go_enter Tryd.func14, Tryd.ntmps14
    go_wp2_with fail
    refine HD.out.mono ?_
    rintro e w2 ⟨rfl, rfl⟩
    go_wp2_with fail
    go_ret3
    exact ⟨rfl, Below.refl _ _⟩
  · have h2 : n % 2 = 1 := by omega
    have e1 : (((n : Int) % 2) != 0) = true := by rw [bne_iff_ne]; omega
    go_enter Tryd.func14, Tryd.ntmps14
    go_wp2_with fail
    refine HD.out.mono ?_
    rintro e w2 ⟨rfl, rfl⟩
    go_wp2_with fail
    go_ret3
    exact ⟨rfl, Below.refl _ _⟩
set_option maxHeartbeats 800000 in
theorem parse_hex_ok (s : ByteArray) (w : World) (hs : s.size ≤ 1073741824) (ht : Tabs w) (h : nd s.data.toList = s.size) (h2 : s.size % 2 = 0) :
    Calls Tryd.prog 14 #[.string s] w fun e w' => e = .returned (.tuple #[.string ⟨(load s.data.toList).toArray⟩, .int .i64 0, .int .i64 0]) ∧ Below w.heap.size w w' := by
  have hd := digits_hex s w hs ht
  rw [h] at hd
  have HD := Lib.hid hd
  have HL := Lib.hid (load_hex s w hs ht)
  clear ht hd h
  have e1 : (((s.size : Int) % 2) != 0) = false := by rw [bne_eq_false_iff_eq]; omega
  go_enter Tryd.func14, Tryd.ntmps14
  go_wp2_with fail
  refine HD.out.mono ?_
  rintro e w2 ⟨rfl, rfl⟩
  go_wp2_with fail
  refine HL.out.mono ?_
  rintro e w3 ⟨rfl, b3⟩
  go_wp2
  go_ret3
  exact ⟨rfl, b3⟩
/-- What is parsed: the bytes, the place, the error. -/
def prs (l : List UInt8) : List UInt8 × Nat × Nat := if nd l < l.length ∨ nd l % 2 ≠ 0 then ([], nd l, 3) else (load l, 0, 0)
theorem parse_hex (s : ByteArray) (w : World) (hs : s.size ≤ 1073741824) (ht : Tabs w) :
    Calls Tryd.prog 14 #[.string s] w fun e w' => e = .returned (.tuple #[.string ⟨(prs s.data.toList).1.toArray⟩, .int .i64 ((prs s.data.toList).2.1 : Int), .int .i64 ((prs s.data.toList).2.2 : Int)]) ∧ Below w.heap.size w w' := by
  unfold prs
  split
  · rename_i h
    rw [list_size] at h
    exact parse_hex_bad s w hs ht h
  · rename_i h
    rw [list_size] at h
    have := nd_le s.data.toList
    rw [list_size] at this
    exact parse_hex_ok s w hs ht (by omega) (by omega)
end Go.Proofs.YtflggcnojfmlmaaDoor
