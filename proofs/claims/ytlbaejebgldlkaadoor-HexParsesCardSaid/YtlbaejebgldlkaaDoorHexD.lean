/- Package hex: the contracts of writeLine and Dump. -/
import Derived.Test.YtlbaejebgldlkaaDoorDec
set_option linter.unusedVariables false
namespace Go.Proofs.YtlbaejebgldlkaaDoor
open Go.RowKit

/-- A builder stays one where all old blocks stay. -/
theorem builderAt_kept {T e B b : Nat} {p : Value} {bs : List Value} {w w' : World} (h : Lib.BuilderAtF T e B b p bs w) (hb : Below w.heap.size w w') : Lib.BuilderAtF T e B b p bs w' := by
  have hlt := h.lt
  obtain ⟨hB, v, hbk, hown, hne⟩ := h
  refine ⟨hB, v, (hb.block b hlt).trans hbk, hown.kept (row := none) ⟨hb.os, hb.tape, hb.output, hb.size, fun k hk _ => hb.block k hk⟩ ?_, hne⟩
  cases v.ownBlock with
  | none => exact .inl rfl
  | some k => exact .inr (by simp)
theorem builder_kept {T e B b : Nat} {bs : List Value} {w w' : World} (h : Lib.IsBuilderF T e B b bs w) (hb : Below w.heap.size w w') : Lib.IsBuilderF T e B b bs w' := by
  rcases h with h | h
  · exact .inl (builderAt_kept h hb)
  · exact .inr (builderAt_kept h hb)
theorem builder_str {B b : Nat} {l : List UInt8} {s : ByteArray} {w : World} (h : Lib.BuilderAtF 34 5 B b (.pointer (some ⟨b, 0, none⟩)) (Lib.byteCells l ++ Lib.strCells s) w) :
    Lib.IsBuilderF 34 5 B b (Lib.byteCells (l ++ s.data.toList)) w := by
  rw [Lib.strCells_eq, ← byteCells_append] at h
  exact .inr h
theorem ln_zero (l r : List UInt8) (c : UInt8) : l ++ ln 0 (c :: r) = (l ++ hx c) ++ ln 1 r := by simp [ln]
theorem ln_more (l r : List UInt8) (c : UInt8) (k : Nat) (h : k ≠ 0) : l ++ ln k (c :: r) = ((l ++ [32]) ++ hx c) ++ ln (k + 1) r := by simp [ln, h]

set_option maxHeartbeats 1600000 in
theorem writeLine_any (B b : Nat) (l0 : List UInt8) (s : ByteArray) (p : Nat) (w : World) (h : Lib.IsBuilderF 34 5 B b (Lib.byteCells l0) w) (hl0 : l0.length ≤ 1073741824) (hs : s.size ≤ 16) (hp : p < 4294967296) (hB : B ≤ w.heap.size) (ht : TabsB B w) :
    Calls Tryd.prog 29 #[.pointer (some ⟨b, 0, none⟩), .string s, .int .i64 (p : Int)] w fun e w' => e = .returned (.tuple #[]) ∧
      Lib.IsBuilderF 34 5 B b (Lib.byteCells (l0 ++ (ln 0 s.data.toList ++ tl p))) w' ∧ Below B w w' := by
  have HT := Lib.hid ht
  have HI := Lib.hid h
  have HP := Lib.hid (length_dec 9 p (by omega))
  clear ht h
  go_enter Tryd.func29, Tryd.ntmps29
  go_wp2_with fail
  go_loopw [9] (fun si wr => ∃ (k : Nat) (l : List UInt8), k ≤ s.size ∧ si = .int .i64 k ∧ Hid (l ++ ln k (s.data.toList.drop k) = l0 ++ ln 0 s.data.toList) ∧ l.length ≤ l0.length + 3 * k ∧
      Hid (Lib.IsBuilderF 34 5 B b (Lib.byteCells l) wr) ∧ Below B w wr) (fun si _ => s.size - (intOf si).toNat)
  case atStart => exact ⟨0, l0, Nat.zero_le _, rfl, rfl, by omega, HI, Below.refl _ _⟩
  case round =>
    obtain ⟨k, l, hk, rfl, HX, hl, HI2, hnx⟩ := hrel
    have hsz := hnx.size
    by_cases hlt : k < s.size
    · have HT2 := Lib.hid (HT.out.below hnx)
      have HX2 := HX.out
      rw [drop_cons s k hlt] at HX2
      obtain ⟨c, hc⟩ : ∃ c, s[k] = c := ⟨_, rfl⟩
      rw [hc] at HX2
      by_cases h0 : k = 0
      · subst h0
        rw [ln_zero] at HX2
        have HX3 := Lib.hid HX2
        clear HX2
        go_wp2_with fail
        refine (writeByte_any B b l c _ HI2.out (by omega) (by omega) HT2.out).mono ?_
        rintro e w2 ⟨rfl, h2, b2⟩
        have H2 := Lib.hid h2
        clear h2
        go_wp2_with fail
        go_roundw
        case rel => exact ⟨1, l ++ hx c, by omega, by go_num, HX3, by simp [hx]; omega, H2, hnx.trans b2⟩
        case measure => simp [intOf]; omega
      · rw [ln_more _ _ _ _ h0] at HX2
        have HX3 := Lib.hid HX2
        clear HX2
        have hpos : (0 : Int) < (k : Int) := by omega
        go_wp2_with fail
        refine (Tryd.bld_WriteByte B b _ _ _ HI2.out (by rw [Lib.byteCells_length]; omega) (by omega)).mono ?_
        rintro e w1 ⟨rfl, h1, b1, k1⟩
        have H1 := Lib.hid (builder_put (d := 32) h1 rfl)
        have HT3 := Lib.hid (HT2.out.below b1)
        have hsz1 := b1.size
        clear h1 k1
        go_wp2_with fail
        refine (writeByte_any B b _ c _ H1.out (by simp; omega) (by omega) HT3.out).mono ?_
        rintro e w2 ⟨rfl, h2, b2⟩
        have H2 := Lib.hid h2
        have hb2 := (hnx.trans b1).trans b2
        clear h2
        go_wp2_with fail
        go_roundw
        case rel => exact ⟨k + 1, l ++ [32] ++ hx c, by omega, by go_num, HX3, by simp [hx]; omega, H2, hb2⟩
        case measure => simp [intOf]; omega
    · obtain rfl : k = s.size := by omega
      have HX2 := HX.out
      rw [drop_all] at HX2
      simp only [ln, List.append_nil] at HX2
      have HX3 := Lib.hid HX2
      have HT2 := Lib.hid (HT.out.below hnx)
      clear HX2
      have HTX := Lib.hid (fun w ht => text_any p hp w ht)
      go_wp2_with fail
      refine (Tryd.bld_WriteString B b _ _ _ HI2.out (by rw [Lib.byteCells_length]; simp [ByteArray.size]; omega) (by omega)).mono ?_
      rintro e w1 ⟨rfl, h1, b1, k1⟩
      have H1 := Lib.hid (builder_str h1)
      have HT3 := Lib.hid (HT2.out.below b1)
      have hsz1 := b1.size
      clear h1 k1
      go_wp2_with fail
      refine (HTX.out _ HT3.out.pow).mono ?_
      rintro e w2 ⟨rfl, b2⟩
      have H2 := Lib.hid (builder_kept H1.out b2)
      have hb2 := (hnx.trans b1).trans (b2.mono (by omega))
      have hsz2 := b2.size
      clear b2 b1
      go_wp2_with fail
      refine (Tryd.bld_WriteString B b _ _ _ H2.out (by rw [Lib.byteCells_length]; have := HP.out; simp [ByteArray.size]; omega) (by omega)).mono ?_
      rintro e w3 ⟨rfl, h3, b3, k3⟩
      have H3 := Lib.hid (builder_str h3)
      have hb3 := hb2.trans b3
      have hsz3 := b3.size
      clear h3 k3
      go_wp2_with fail
      refine (Tryd.bld_WriteByte B b _ _ _ H3.out (by rw [Lib.byteCells_length]; have := HP.out; simp; omega) (by omega)).mono ?_
      rintro e w4 ⟨rfl, h4, b4, k4⟩
      have H4 := Lib.hid (builder_put (d := 10) h4 rfl)
      have hb4 := hb3.trans b4
      clear h4 k4
      go_wp2
      go_end0
      refine ⟨rfl, ?_, hb4⟩
      have h5 := H4.out
      have e : l ++ (⟨#[32, 32, 35, 32]⟩ : ByteArray).data.toList ++ (⟨(Lib.decDigits p).toArray⟩ : ByteArray).data.toList ++ [10] = l0 ++ (ln 0 s.data.toList ++ tl p) := by
        rw [HX3.out]; simp [tl]
      rw [← e]
      exact h5

theorem sub_list (s : ByteArray) (k : Nat) (h : k < s.size) : (s.extract k (min ((k : Int) + 16) (s.size : Int)).toNat).data.toList = (s.data.toList.drop k).take 16 := by
  have e : (min ((k : Int) + 16) (s.size : Int)).toNat = min (k + 16) s.size := by omega
  rw [e, ByteArray.data_extract, Array.toList_extract, List.extract_eq_take_drop]
  by_cases h16 : k + 16 ≤ s.size
  · rw [Nat.min_eq_left h16, show k + 16 - k = 16 by omega]
  · rw [Nat.min_eq_right (by omega), List.take_of_length_le (by simp), List.take_of_length_le (by simp; omega)]
theorem sub_size (s : ByteArray) (k : Nat) (h : k < s.size) : (s.extract k (min ((k : Int) + 16) (s.size : Int)).toNat).size ≤ 16 := by
  rw [← list_size, sub_list s k h, List.length_take]
  omega
theorem drop_drop16 (l : List UInt8) (k : Nat) : (l.drop k).drop 16 = l.drop (k + 16) := by rw [List.drop_drop]
theorem tl_len (p : Nat) (h : p < 4294967296) : (tl p).length ≤ 15 := by
  have := length_dec 9 p (by omega)
  simp [tl]; omega

set_option maxHeartbeats 1600000 in
theorem dump_hex (s : ByteArray) (w : World) (hs : s.size ≤ 16777216) (ht : Tabs w) :
    Calls Tryd.prog 18 #[.string s] w fun e w' => e = .returned (.string ⟨(dm 0 s.data.toList).toArray⟩) ∧ Below w.heap.size w w' := by
  have HT := Lib.hid ht.at
  clear ht
  go_enter Tryd.func18, Tryd.ntmps18
  go_wp2_with fail
  go_loopw [4] (fun si wr => ∃ (k : Nat) (l : List UInt8), k ≤ s.size + 15 ∧ k % 16 = 0 ∧ si = .int .i64 k ∧ Hid (l ++ dm k (s.data.toList.drop k) = dm 0 s.data.toList) ∧ l.length ≤ 4 * k ∧
      Hid (Lib.IsBuilderF 34 5 w.heap.size w.heap.size (Lib.byteCells l) wr) ∧ Below w.heap.size w wr) (fun si _ => s.size + 15 - (intOf si).toNat)
  case atStart => exact ⟨0, [], Nat.zero_le _, rfl, rfl, rfl, Nat.zero_le _, Lib.IsBuilderF.of (Lib.fresh_isBuilder _ _ w), (Below.refl _ w).alloc (Nat.le_refl _) _⟩
  case round =>
    obtain ⟨k, l, hk, hk16, rfl, HX, hl, HI2, hnx⟩ := hrel
    by_cases hlt : k < s.size
    · have HT2 := Lib.hid (HT.out.below hnx)
      have HX2 := HX.out
      have hne : s.data.toList.drop k ≠ [] := by
        intro e
        have := congrArg List.length e
        simp at this
        omega
      rw [dm_line k hk16 _ hne, drop_drop16, ← List.append_assoc, ← sub_list s k hlt] at HX2
      have HX3 := Lib.hid HX2
      have hsub := sub_size s k hlt
      have HL := Lib.hid (ln_len 0 (s.extract k (min ((k : Int) + 16) (s.size : Int)).toNat).data.toList)
      have HTL := Lib.hid (tl_len k (by omega))
      clear HX2 hne
      go_wp2_with fail
      refine (writeLine_any w.heap.size w.heap.size l _ k _ HI2.out (by omega) hsub (by omega) hnx.size HT2.out).mono ?_
      rintro e w2 ⟨rfl, h2, b2⟩
      have H2 := Lib.hid h2
      clear h2
      go_wp2_with fail
      go_roundw
      case rel => exact ⟨k + 16, l ++ (ln 0 (s.extract k (min ((k : Int) + 16) (s.size : Int)).toNat).data.toList ++ tl k), by omega, by omega, by go_num, HX3, by have h3 := HL.out; have h4 := HTL.out; rw [list_size] at h3; rw [List.length_append, List.length_append]; omega, H2, hnx.trans b2⟩
      case measure => simp [intOf]; omega
    · have HX2 := HX.out
      rw [List.drop_of_length_le (by simp; omega)] at HX2
      simp only [dm, List.append_nil] at HX2
      subst HX2
      go_wp2_with fail
      refine (Tryd.Builder_String_any_k w.heap.size w.heap.size _ _ HI2.out hnx.size).mono ?_
      rintro e w2 ⟨rfl, h2, b2, k2⟩
      go_wp2
      go_ret
      exact ⟨rfl, hnx.trans b2⟩
end Go.Proofs.YtlbaejebgldlkaaDoor
