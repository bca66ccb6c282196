/- Package digest: the contract of Of. -/
import Derived.Test.YtfbefenagnlnfaaDoorDigE
set_option linter.unusedVariables false
namespace Go.Proofs.YtfbefenagnlnfaaDoor
open Go.RowKit

/-- The digest of bytes. -/
def one8 : Ws := [1, 0, 0, 0, 0, 0, 0, 0]
theorem one8_ok : Ok8 one8 := mk8 ⟨by omega, by omega⟩ ⟨by omega, by omega⟩ ⟨by omega, by omega⟩ ⟨by omega, by omega⟩ ⟨by omega, by omega⟩ ⟨by omega, by omega⟩ ⟨by omega, by omega⟩ ⟨by omega, by omega⟩
def dof (s : ByteArray) : Ws := (tkAll (tkAll one8 (wdsL (nums (s.extract 0 (16 * (s.size / 16)))))) (wdsL (nums (s.extract (16 * (s.size / 16)) s.size ++ ender s.size)))).take 4
theorem size_ender (n : Nat) : (ender n).size = 9 + (23 - n % 16) % 16 := by
  unfold ender
  have h1 := size_mk (Lib.repeatL [0] ((23 - n % 16) % 16))
  rw [length_repeatL0] at h1
  have h2 := strOfNums_size (bytsAll [(n : Int), 0])
  rw [length_bytsAll] at h2
  rw [ByteArray.size_append, ByteArray.size_append, h1, h2]
  show 1 + _ + 4 * 2 = _
  omega

set_option maxRecDepth 100000 in
set_option maxHeartbeats 2000000 in
theorem of_code (s : ByteArray) (w : World) (hn : s.size ≤ 300) (ht : Tabs w) :
    Calls Tryd.prog 47 #[.string s] w fun e w' => e = .returned (ag (dof s)) ∧ Below w.heap.size w w' := by
  obtain ⟨n, hnn⟩ : ∃ n, s.size = n := ⟨_, rfl⟩
  obtain ⟨m, hm⟩ : ∃ m, n / 16 = m := ⟨_, rfl⟩
  obtain ⟨m2, hm2⟩ : ∃ m2, n - 16 * m + (9 + (23 - n % 16) % 16) = 16 * m2 := ⟨(n - 16 * m + (9 + (23 - n % 16) % 16)) / 16, by omega⟩
  have hs1 : (s.extract 0 (16 * m)).size = 16 * m := by rw [ByteArray.size_extract]; omega
  have hs2 : (s.extract (16 * m) n).size = n - 16 * m := by rw [ByteArray.size_extract]; omega
  have hs3 : (s.extract (16 * m) n ++ ender n).size = 16 * m2 := by rw [ByteArray.size_append, hs2, size_ender]; omega
  have c1 := fun w ht => takeText_code one8 _ m w one8_ok hs1 (by omega) ht
  have h1 := tkAll_ok _ one8 (wdsL (nums (s.extract 0 (16 * m)))) (Nat.le_refl _) one8_ok (words_of_text _ (4 * m) (by omega)).2
  have c2 := fun w ht => takeText_code _ _ m2 w h1 hs3 (by omega) ht
  have h2 := tkAll_ok _ _ (wdsL (nums (s.extract (16 * m) n ++ ender n))) (Nat.le_refl _) h1 (words_of_text _ (4 * m2) (by omega)).2
  have c4 := fun w => ending_code n w (by omega)
  unfold dof
  rw [hnn, hm]
  obtain ⟨u0, u1, u2, u3, u4, u5, u6, u7, hu, _⟩ := ok8 h1
  rw [hu] at c1 c2 h2 ⊢
  obtain ⟨v0, v1, v2, v3, v4, v5, v6, v7, hv, _⟩ := ok8 h2
  rw [hv] at c2 h2 ⊢
  have c3 := fun w => front_ex w h2
  have hse := size_ender n
  obtain ⟨E, hE⟩ : ∃ E, ender n = E := ⟨_, rfl⟩
  rw [hE] at c2 c4 hs3 hse
  have c1 := fun w ht => show Calls Tryd.prog 64 #[ag [1, 0, 0, 0, 0, 0, 0, 0], .string (s.extract 0 (16 * m))] w (fun e w' => e = .returned (ag [u0, u1, u2, u3, u4, u5, u6, u7]) ∧ Below w.heap.size w w') from c1 w ht
  simp only [ag8] at c1 c2
  show Calls Tryd.prog 47 #[.string s] w fun e w' => e = .returned (ag [v0, v1, v2, v3]) ∧ Below w.heap.size w w'
  rw [ag4]
  have C1 := Lib.hid c1
  have C2 := Lib.hid c2
  have C3 := Lib.hid c3
  have C4 := Lib.hid c4
  have HT := Lib.hid ht
  have HK := Lib.hid ((Kl.nil w).more (.cells #[.int .u32 0, .int .u32 0, .int .u32 0, .int .u32 0] 24 (0, 0)))
  have i0 : (s.size : Int) = (n : Int) := by omega
  have i1 : (n : Int) - (n : Int) % 16 = 16 * (m : Int) := by omega
  have i2 : 0 ≤ 16 * (m : Int) := by omega
  have i3 : 16 * (m : Int) ≤ (n : Int) := by omega
  have i4 : (n : Int) ≤ 300 := by omega
  have i5 : 16 * m ≤ n := by omega
  have i6 : (16 * (m : Int)).toNat = 16 * m := by omega
  have i7 : ¬ 9223372036854775807 < n - 16 * m + (9 + (23 - n % 16) % 16) := by omega
  have i8 : ¬ 9223372036854775807 < 16 * m2 := by omega
  clear c1 c2 c3 c4 ht hE h1 h2 hu hv hs1
  go_enter Tryd.func47, Tryd.ntmps47
  go_wp2_with fail
  refine (C1.out _ (HT.out.below HK.out.be)).mono ?_
  rintro e w1 ⟨rfl, hb⟩
  replace HK := Lib.hid (HK.out.after hb)
  have l0 : w.heap.size < w1.heap.size := HK.out.lt 0 rfl
  obtain ⟨d0, d1, d2, d3, f0, f1, f2, f3⟩ := cells4 (HK.out.at 0 rfl)
  replace HK := Lib.hid (HK.out.more (.cells #[.int .u32 u0, .int .u32 u1, .int .u32 u2, .int .u32 u3, .int .u32 u4, .int .u32 u5, .int .u32 u6, .int .u32 u7] 89 (0, 0))).drew
  clear hb
  go_wp2_with fail
  go_region_law (first
    | (go_simp; go_at_call 66; with_reducible refine (C4.out _).mono ?_; rintro e w' ⟨rfl, hb⟩; replace HK := Lib.hid (HK.out.after hb); clear hb; obtain ⟨a0, a1, a2, a3, a4, a5, a6, a7, _⟩ := cells8 (HK.out.at 1 rfl); obtain ⟨d0, d1, d2, d3, f0, f1, f2, f3⟩ := cells4 (HK.out.at 0 rfl))
    | (go_simp; go_at_call 64; with_reducible refine (C2.out _ (HT.out.below HK.out.be)).mono ?_; rintro e w' ⟨rfl, hb⟩; replace HK := Lib.hid (HK.out.after hb); clear hb; obtain ⟨a0, a1, a2, a3, a4, a5, a6, a7, _⟩ := cells8 (HK.out.at 1 rfl); obtain ⟨d0, d1, d2, d3, f0, f1, f2, f3⟩ := cells4 (HK.out.at 0 rfl))
    | (go_simp; go_at_call 65; with_reducible refine (C3.out _).mono ?_; rintro e w' ⟨rfl, hb⟩; replace HK := Lib.hid (HK.out.after hb); clear hb; obtain ⟨a0, a1, a2, a3, a4, a5, a6, a7, _⟩ := cells8 (HK.out.at 1 rfl); obtain ⟨d0, d1, d2, d3, f0, f1, f2, f3⟩ := cells4 (HK.out.at 0 rfl)))
  all_goals
    have HR := Lib.hid (row4 (HK.out.at 0 rfl) (.int .u32 v0) (.int .u32 v1) (.int .u32 v2) (.int .u32 v3))
    go_wp2_with fail
    exact bodyPost_ret (v := .agg #[.int .u32 v0, .int .u32 v1, .int .u32 v2, .int .u32 v3]) (by
      obtain ⟨k0, k1, k2, k3, _⟩ := cells4 HR.out
      simp [results, go_sem, k0, k1, k2, k3]) rfl ⟨rfl, below_row4 HK.out.be (Nat.le_refl _) _ _ _ _⟩
end Go.Proofs.YtfbefenagnlnfaaDoor
