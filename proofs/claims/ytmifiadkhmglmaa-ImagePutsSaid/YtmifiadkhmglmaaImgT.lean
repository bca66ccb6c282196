/- Layer 8 (image): the contracts of strings.CutPrefix at the mark, and of fromWords. -/
import Derived.Test.YtmifiadkhmglmaaImgF
import Derived.Test.YtmifiadkhmglmaaPackC
set_option linter.unusedVariables false
namespace Go.Proofs.Ytmifiadkhmglmaa
open Go.RowKit

/-- Does a text begin with the mark? What stands behind it. -/
def mk8 (s : ByteArray) : Bool := decide (4 ≤ s.size ∧ (nums s).getD 0 0 = 83 ∧ (nums s).getD 1 0 = 69 ∧ (nums s).getD 2 0 = 69 ∧ (nums s).getD 3 0 = 68)
def rs8 (s : ByteArray) : ByteArray := if mk8 s then s.extract 4 s.size else s
abbrev SEED8 : ByteArray := ⟨#[83, 69, 69, 68]⟩
theorem mk8_eq {s : ByteArray} (h : 4 ≤ s.size) : ((s.extract 0 4).toList == [83, 69, 69, 68]) = mk8 s := by
  have hl : s.size = s.data.toList.length := rfl
  have e : (s.extract 0 4).toList = s.data.toList.take 4 := by
    rw [ByteArray.toList_eq, ByteArray.data_extract, Array.toList_extract, List.extract_eq_take_drop]
    simp
  rw [e]
  unfold mk8 nums
  rw [hl] at h ⊢
  match s.data.toList, h with
  | a :: b :: c :: d :: r, _ =>
    have f : ∀ (x : UInt8) (k : Nat), k < 256 → ((x == UInt8.ofNat k) = decide ((x.toNat : Int) = (k : Int))) := fun x k hk => by
      by_cases hx : x = UInt8.ofNat k
      · subst hx
        have : (UInt8.ofNat k).toNat = k := by simp; omega
        simp [this]
      · rw [beq_eq_false_iff_ne.2 hx, decide_eq_false]
        intro he
        exact hx (by have : x.toNat = k := by omega
                     rw [← this]; simp)
    have f1 := f a 83 (by omega)
    have f2 := f b 69 (by omega)
    have f3 := f c 69 (by omega)
    have f4 := f d 68 (by omega)
    show ((a == UInt8.ofNat 83) && ((b == UInt8.ofNat 69) && ((c == UInt8.ofNat 69) && ((d == UInt8.ofNat 68) && true)))) = _
    rw [f1, f2, f3, f4]
    simp
theorem mk8_size {s : ByteArray} (h : mk8 s = true) : 4 ≤ s.size := (of_decide_eq_true h).1
set_option maxHeartbeats 1000000 in
theorem has8 (s : ByteArray) (w : World) (hs : s.size ≤ 1073741824) :
    Calls Try.prog 29 #[.string s, .string SEED8] w fun e w' => e = .returned (.bool (mk8 s)) ∧ w' = w := by
  by_cases h : 4 ≤ s.size
  · have h4 : (4 : Int) ≤ (s.size : Int) := by omega
    have hm := mk8_eq h
    go_enter Try.func29, Try.ntmps29
    go_wp2_with fail
    go_ret
    exact ⟨rfl, rfl⟩
  · have h4 : decide ((4 : Int) ≤ (s.size : Int)) = false := decide_eq_false (by omega)
    rw [show mk8 s = false from by simp [mk8, h]]
    go_enter Try.func29, Try.ntmps29
    go_wp2_with fail
    go_ret
    exact ⟨rfl, rfl⟩
set_option maxHeartbeats 1000000 in
theorem cutl8 (s : ByteArray) (w : World) (hs : s.size ≤ 1073741824) :
    Calls Try.prog 26 #[.string s, .string SEED8] w fun e w' => e = .returned (.tuple #[.string (rs8 s), .bool (mk8 s)]) ∧ w' = w := by
  have c1 := fun w => has8 s w hs
  cases h : mk8 s with
  | true =>
    have h4 := mk8_size h
    have u4 : (4 : Int) ≤ (s.size : Int) := by omega
    rw [show rs8 s = s.extract 4 s.size from by simp [rs8, h]]
    rw [h] at c1
    have C1 := Lib.hid c1
    clear c1 h
    go_enter Try.func26, Try.ntmps26
    go_wp2_with fail
    refine (C1.out _).mono ?_
    rintro e w1 ⟨rfl, rfl⟩
    go_wp2_with fail
    go_ret2
    exact ⟨rfl, rfl⟩
  | false =>
    rw [show rs8 s = s from by simp [rs8, h]]
    rw [h] at c1
    have C1 := Lib.hid c1
    clear c1 h
    go_enter Try.func26, Try.ntmps26
    go_wp2_with fail
    refine (C1.out _).mono ?_
    rintro e w1 ⟨rfl, rfl⟩
    go_wp2_with fail
    go_ret2
    exact ⟨rfl, rfl⟩
set_option maxHeartbeats 1000000 in
theorem cut8 (s : ByteArray) (w : World) (hs : s.size ≤ 1073741824) :
    Calls Try.prog 22 #[.string s, .string SEED8] w fun e w' => e = .returned (.tuple #[.string (rs8 s), .bool (mk8 s)]) ∧ w' = w := by
  have c1 := fun w => cutl8 s w hs
  obtain ⟨r, hr⟩ : ∃ r, rs8 s = r := ⟨_, rfl⟩
  obtain ⟨b, hb⟩ : ∃ b, mk8 s = b := ⟨_, rfl⟩
  rw [hr, hb] at c1 ⊢
  have C1 := Lib.hid c1
  clear c1 hr hb
  go_enter Try.func22, Try.ntmps22
  go_wp2_with fail
  refine (C1.out _).mono ?_
  rintro e w1 ⟨rfl, rfl⟩
  go_wp2_with fail
  go_ret2
  exact ⟨rfl, rfl⟩
/-- Are the words behind the mark an image's? -/
def fw8 (zs : List Int) : Bool := decide (2 ≤ zs.length ∧ zs.getD 0 0 = (zs.length : Int) - 2 ∧ zs.getD 1 0 ≤ 32768)
def fwe (zs : List Int) : Int := if fw8 zs then 0 else 7
def fwc (zs : List Int) : List Int := if fw8 zs then zs.drop 2 else []
def fwd (zs : List Int) : Int := if fw8 zs then zs.getD 1 0 else 0
theorem Rd.drop2 {w : World} {b off n : Nat} {zs : List Int} (h : Rd w (some ⟨b, off, none⟩) n zs) (hn : 2 ≤ n) : Rd w (some ⟨b, off + 2, none⟩) (n - 2) (zs.drop 2) := by
  obtain ⟨h1, h2, h3⟩ := h
  have g : ∀ j, (zs.drop 2).getD j 0 = zs.getD (j + 2) 0 := fun j => by
    rw [List.getD_eq_getElem?_getD, List.getD_eq_getElem?_getD, List.getElem?_drop, Nat.add_comm]
  refine ⟨by rw [List.length_drop, h1], .inr ?_, fun j => by rw [g]; exact h3 _⟩
  rcases h2 with h2 | ⟨b', off', e, hlt, hc⟩
  · omega
  · injection e with e
    injection e with e1 e2
    subst e1 e2
    exact ⟨b, off + 2, rfl, hlt, fun j hj => by rw [g, show off + 2 + j = off + (j + 2) by omega]; exact hc (j + 2) (by omega)⟩
set_option maxRecDepth 100000 in
set_option maxHeartbeats 2000000 in
theorem from8 {A : Option Addr} {n c : Nat} {zs : List Int} (w : World) (ha : Rd w A n zs) (hnc : n ≤ c) (hc : c ≤ maxLen) (hn : n ≤ 1073741824) :
    Calls Try.prog 24 #[.slice A n c] w fun e w' => ∃ A2 n2 c2, e = .returned (.tuple #[.agg #[.slice A2 n2 c2, .int .i64 (fwd zs)], .int .i64 (fwe zs)]) ∧ (∀ U, Rd U A n zs → Rd U A2 n2 (fwc zs)) ∧ n2 ≤ c2 ∧ c2 ≤ maxLen ∧ Below w.heap.size w w' := by
  have hl := ha.1
  have HK := Lib.hid ((Kx.nil none w).more (.cells #[.slice none 0 0, .int .i64 0] 24 (0, 0)))
  by_cases h1 : 2 ≤ n
  · have u1 : decide ((n : Int) < 2) = false := decide_eq_false (by omega)
    obtain ⟨b, off, rfl, x0⟩ := (ha.kx HK.out).cell (j := 0) (by omega)
    obtain ⟨b', off', e, x1⟩ := (ha.kx HK.out).cell (j := 1) (by omega)
    injection e with e
    injection e with e1 e2
    subst e1 e2
    obtain ⟨z0, hz0⟩ : ∃ z, zs.getD 0 0 = z := ⟨_, rfl⟩
    obtain ⟨z1, hz1⟩ : ∃ z, zs.getD 1 0 = z := ⟨_, rfl⟩
    have b0 := ha.2.2 0
    have b1 := ha.2.2 1
    rw [hz0] at b0
    rw [hz0, Nat.add_zero] at x0
    rw [hz1] at x1 b1
    have hfw : fw8 zs = decide (z0 = (n : Int) - 2 ∧ z1 ≤ 32768) := by
      unfold fw8
      rw [hl, hz0, hz1]
      simp [h1]
    by_cases h2 : z0 = (n : Int) - 2
    · by_cases h3 : z1 ≤ 32768
      · have y1 : (2 : Int) ≤ (n : Int) := by omega
        have y2 : (n : Int) ≤ (c : Int) := by omega
        have v3 : decide ((32768 : Int) < z1) = false := decide_eq_false (by omega)
        have hf : fw8 zs = true := by rw [hfw]; simp [h2, h3]
        rw [show fwe zs = 0 from by simp [fwe, hf], show fwc zs = zs.drop 2 from by simp [fwc, hf], show fwd zs = z1 from by simp only [fwd, hf, hz1, if_true]]
        have HL := Lib.hid hl
        clear ha hf hfw hz0 hz1 hl
        obtain ⟨a0, a1, a2, a3⟩ := cells2 (HK.out.at 0 rfl)
        by_cases hc2 : c = 2
        · subst hc2
          obtain rfl : n = 2 := by omega
          go_enter Try.func24, Try.ntmps24
          go_wp2_with fail
          go_region
          go_wp2_with fail
          have HF := Lib.hid ((Kx.nil none w).more (.cells #[.slice (some ⟨b, off, none⟩) 0 0, .int .i64 z1] 24 (0, 0))).drew
          have hz : zs.drop 2 = [] := List.drop_eq_nil_of_le (by rw [HL.out]; exact Nat.le_refl _)
          rw [hz]
          exact bodyPost_ret (v := .tuple #[.agg #[.slice (some ⟨b, off, none⟩) 0 0, .int .i64 z1], .int .i64 0]) (by
            obtain ⟨k0, k1, _⟩ := cells2 (HF.out.at 0 rfl)
            simp [results, go_sem, k0, k1]) rfl ⟨_, _, _, rfl, fun U _ => ⟨rfl, .inl rfl, fun j => by simp⟩, by omega, by unfold maxLen; omega, HF.out.be.plain⟩
        · go_enter Try.func24, Try.ntmps24
          go_wp2_with fail
          go_region
          go_wp2_with fail
          have HF := Lib.hid ((Kx.nil none w).more (.cells #[.slice (some ⟨b, off + 2, none⟩) (n - 2) (c - 2), .int .i64 z1] 24 (0, 0))).drew
          exact bodyPost_ret (v := .tuple #[.agg #[.slice (some ⟨b, off + 2, none⟩) (n - 2) (c - 2), .int .i64 z1], .int .i64 0]) (by
            obtain ⟨k0, k1, _⟩ := cells2 (HF.out.at 0 rfl)
            simp [results, go_sem, k0, k1]) rfl ⟨_, _, _, rfl, fun U hU => hU.drop2 h1, by omega, by omega, HF.out.be.plain⟩
      · have v3 : decide ((32768 : Int) < z1) = true := decide_eq_true (by omega)
        have hf : fw8 zs = false := by rw [hfw]; simp [h2, h3]
        rw [show fwe zs = 7 from by simp [fwe, hf], show fwc zs = [] from by simp [fwc, hf], show fwd zs = 0 from by simp [fwd, hf]]
        clear ha hf hfw hz0 hz1
        obtain ⟨a0, a1, a2, a3⟩ := cells2 (HK.out.at 0 rfl)
        go_enter Try.func24, Try.ntmps24
        go_wp2_with fail
        exact bodyPost_ret (v := .tuple #[.agg #[.slice none 0 0, .int .i64 0], .int .i64 7]) (by
          obtain ⟨k0, k1, _⟩ := cells2 (HK.out.at 0 rfl)
          simp [results, go_sem, k0, k1]) rfl ⟨none, 0, 0, rfl, fun U _ => ⟨rfl, .inl rfl, fun j => by simp⟩, Nat.le_refl _, by unfold maxLen; omega, HK.out.be.plain⟩
    · have v2 : (z0 != (n : Int) - 2) = true := by rw [bne_iff_ne]; exact h2
      have hf : fw8 zs = false := by rw [hfw]; simp [h2]
      rw [show fwe zs = 7 from by simp [fwe, hf], show fwc zs = [] from by simp [fwc, hf], show fwd zs = 0 from by simp [fwd, hf]]
      clear ha hf hfw hz0 hz1
      obtain ⟨a0, a1, a2, a3⟩ := cells2 (HK.out.at 0 rfl)
      go_enter Try.func24, Try.ntmps24
      go_wp2_with fail
      exact bodyPost_ret (v := .tuple #[.agg #[.slice none 0 0, .int .i64 0], .int .i64 7]) (by
        obtain ⟨k0, k1, _⟩ := cells2 (HK.out.at 0 rfl)
        simp [results, go_sem, k0, k1]) rfl ⟨none, 0, 0, rfl, fun U _ => ⟨rfl, .inl rfl, fun j => by simp⟩, Nat.le_refl _, by unfold maxLen; omega, HK.out.be.plain⟩
  · have u1 : decide ((n : Int) < 2) = true := decide_eq_true (by omega)
    have hf : fw8 zs = false := by simp [fw8, hl, h1]
    rw [show fwe zs = 7 from by simp [fwe, hf], show fwc zs = [] from by simp [fwc, hf], show fwd zs = 0 from by simp [fwd, hf]]
    obtain ⟨a0, a1, a2, a3⟩ := cells2 (HK.out.at 0 rfl)
    clear ha hf
    go_enter Try.func24, Try.ntmps24
    go_wp2_with fail
    exact bodyPost_ret (v := .tuple #[.agg #[.slice none 0 0, .int .i64 0], .int .i64 7]) (by
      obtain ⟨k0, k1, _⟩ := cells2 (HK.out.at 0 rfl)
      simp [results, go_sem, k0, k1]) rfl ⟨none, 0, 0, rfl, fun U _ => ⟨rfl, .inl rfl, fun j => by simp⟩, Nat.le_refl _, by unfold maxLen; omega, HK.out.be.plain⟩
end Go.Proofs.Ytmifiadkhmglmaa
