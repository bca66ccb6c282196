/- The reference of layer 8: the contracts of Put and word. -/
import Derived.Test.YtmifiadkhmglmaaImgA
set_option linter.unusedVariables false
namespace Go.Proofs.Ytmifiadkhmglmaa
open Go.RowKit

/-- What Put gives. -/
def pts (code : List Int) (d : Int) : ByteArray := if irt code d then ibs code d else ⟨#[]⟩
def pte (code : List Int) (d : Int) : Int := if irt code d then 0 else 1
theorem ibs_eq (code : List Int) (d : Int) : ((⟨#[83, 69, 69, 68]⟩ : ByteArray) ++ strOfNums (bytsAll [(code.length : Int), d])) ++ strOfNums (bytsAll code) = ibs code d := by
  apply ByteArray.ext
  apply Array.toList_inj.1
  simp [ibs, ibl, strOfNums, ByteArray.data_append]
theorem two_new (w : World) (a b : Int) (t : TypeId) : ∀ j, j < 2 → (w.alloc (.cells #[.int .u32 a, .int .u32 b] t)).cell? ⟨w.heap.size, 0 + j, none⟩ = some (.int .u32 ([a, b].getD j 0)) := by
  intro j hj
  match j, hj with
  | 0, _ | 1, _ => simp
theorem two8 {w W : World} {b : Nat} {t : TypeId} {v0 v1 : Value} {bs : List (Nat × Obj)} (h : Kx none w W ((b, .cells #[v0, v1] t (0, 0)) :: bs)) : W.cell? ⟨b, 0, none⟩ = some v0 ∧ W.cell? ⟨b, 1, none⟩ = some v1 :=
  have hr : W.heap[b]? = some (.cells #[v0, v1] t (0, 0)) := h.at 0 rfl
  ⟨(cells2 hr).1, (cells2 hr).2.1⟩
theorem two8D {w W : World} {b : Nat} {t : TypeId} {v0 v1 : Value} {bs : List (Nat × Obj)} (h : Kx none w W ((b, .cells #[v0, v1] t (0, 0)) :: bs)) : W.drew.cell? ⟨b, 0, none⟩ = some v0 ∧ W.drew.cell? ⟨b, 1, none⟩ = some v1 :=
  have hr : W.drew.heap[b]? = some (.cells #[v0, v1] t (0, 0)) := h.at 0 rfl
  ⟨(cells2 hr).1, (cells2 hr).2.1⟩
theorem two8A {w W : World} {b : Nat} {t : TypeId} {v0 v1 : Value} {bs : List (Nat × Obj)} {vs : Array Value} {u : TypeId} (h : Kx none w W ((b, .cells #[v0, v1] t (0, 0)) :: bs)) : (W.alloc (.cells vs u (0, 0))).drew.cell? ⟨b, 0, none⟩ = some v0 ∧ (W.alloc (.cells vs u (0, 0))).drew.cell? ⟨b, 1, none⟩ = some v1 :=
  have hr : (W.alloc (.cells vs u (0, 0))).drew.heap[b]? = some (.cells #[v0, v1] t (0, 0)) := (h.more (.cells vs u (0, 0))).at 0 rfl
  ⟨(cells2 hr).1, (cells2 hr).2.1⟩
set_option maxRecDepth 100000 in
set_option maxHeartbeats 2000000 in
theorem put8_ref {A : Option Addr} {n c : Nat} {d : Int} {code : List Int} (w : World) (ha : Rd w A n code) (hn : n ≤ 4096) :
    Calls Try.prog 16 #[.agg #[.slice A n c, .int .i64 d]] w fun en w' => en = .returned (.tuple #[.string (pts code d), .int .i64 (pte code d)]) ∧ Below w.heap.size w w' := by
  have hl := ha.1
  have c1 := fun w => right8_ref (A := A) (c := c) (d := d) code w hl (by omega)
  have HK := Lib.hid ((Kx.nil none w).more (.cells #[.slice A n c, .int .i64 d] 24 (0, 0)))
  obtain ⟨a0, a1, _⟩ := cells2 (HK.out.at 0 rfl)
  cases hr : irt code d with
  | false =>
    rw [show pts code d = ⟨#[]⟩ from by unfold pts; rw [hr]; rfl, show pte code d = 1 from by unfold pte; rw [hr]; rfl]
    rw [hr] at c1
    have C1 := Lib.hid c1
    clear c1 hr ha hl
    go_enter Try.func16, Try.ntmps16
    go_wp2_with fail
    refine (C1.out _).mono ?_
    rintro e w1 ⟨rfl, hb⟩
    replace HK := Lib.hid (HK.out.after hb)
    clear hb a0 a1
    go_wp2_with fail
    go_ret2
    exact ⟨rfl, HK.out.be.plain⟩
  | true =>
    rw [show pts code d = ibs code d from by unfold pts; rw [hr]; rfl, show pte code d = 0 from by unfold pte; rw [hr]; rfl]
    have hi := irt_yes hr
    rw [hr] at c1
    have z1 : IntKind.u32.wrap (n : Int) = (n : Int) := by rw [IntKind.wrap_u32]; omega
    have z2 : IntKind.u32.wrap d = d := by rw [IntKind.wrap_u32]; omega
    have c2 := fun (w : World) => ref_bytes_row w.heap.size 0 2 2 [IntKind.u32.wrap (n : Int), IntKind.u32.wrap d] (w.alloc (.cells #[.int .u32 (IntKind.u32.wrap (n : Int)), .int .u32 (IntKind.u32.wrap d)] 35)).drew rfl (by omega) (by omega) (by simp) (two_new w _ _ _) (by
      rw [z1, z2]
      intro j
      match j with
      | 0 => simp; omega
      | 1 => simp; omega
      | k + 2 => simp)
    rw [show [IntKind.u32.wrap (n : Int), IntKind.u32.wrap d] = [(n : Int), d] from by rw [z1, z2]] at c2
    clear z1 z2
    have c3 := fun (w : World) (h : Rd w A n code) => ref_bytes_rd (cap := c) h hn
    have hE := ibs_eq code d
    rw [hl] at hE
    have hs1 : (strOfNums (bytsAll [(n : Int), d])).size = 8 := by rw [strOfNums_size, length_bytsAll]; rfl
    have hs2 : (strOfNums (bytsAll code)).size = 4 * n := by rw [strOfNums_size, length_bytsAll, hl]
    obtain ⟨S1, hS1⟩ : ∃ S, strOfNums (bytsAll [(n : Int), d]) = S := ⟨_, rfl⟩
    obtain ⟨S2, hS2⟩ : ∃ S, strOfNums (bytsAll code) = S := ⟨_, rfl⟩
    obtain ⟨T, hT⟩ : ∃ T, ibs code d = T := ⟨_, rfl⟩
    rw [hS1] at c2 hs1 hE
    rw [hS2] at c3 hs2 hE
    rw [hT] at hE ⊢
    obtain ⟨m1, hm1⟩ : ∃ m, m = 8 := ⟨_, rfl⟩
    obtain ⟨m2, hm2⟩ : ∃ m, m = 4 * n := ⟨_, rfl⟩
    rw [← hm1] at hs1
    rw [← hm2] at hs2
    have q1 : ((⟨#[83, 69, 69, 68]⟩ : ByteArray) ++ S1).size = 4 + m1 := by rw [ByteArray.size_append, hs1]; rfl
    have n1 : ¬ 9223372036854775807 < 4 + m1 := by omega
    have n2 : ¬ 9223372036854775807 < 4 + m1 + m2 := by omega
    have i1 : (n : Int) % 4294967296 = (n : Int) := by omega
    have i2 : d % 4294967296 = d := by omega
    have C1 := Lib.hid c1
    have C2 := Lib.hid c2
    have C3 := Lib.hid c3
    have HA := Lib.hid ha
    have HE := Lib.hid hE
    clear c1 c2 c3 hr ha hl hi hE hS1 hS2 hT hm1 hm2
    go_enter Try.func16, Try.ntmps16
    go_wp2_with fail
    refine (C1.out _).mono ?_
    rintro e w1 ⟨rfl, hb⟩
    replace HK := Lib.hid (HK.out.after hb)
    clear hb a0 a1
    obtain ⟨a0, a1, _⟩ := cells2 (HK.out.at 0 rfl)
    go_wp2_with fail
    go_region_held3 (fun W => W.cell? ⟨w.heap.size, 0, none⟩ = some (.slice A n c) ∧ W.cell? ⟨w.heap.size, 1, none⟩ = some (.int .i64 d))
      (first | exact two8A HK.out | exact two8D HK.out | exact two8 HK.out)
      (first
        | (go_at_call 21; with_reducible refine (C2.out _).mono ?_; rintro e w' ⟨rfl, hb⟩; replace HK := Lib.hid ((HK.out.more (.cells #[.int .u32 (IntKind.u32.wrap (n : Int)), .int .u32 (IntKind.u32.wrap d)] 35 (0, 0))).drew.after hb); clear hb)
        | (go_at_call 21; with_reducible refine (C3.out _ (HA.out.kx HK.out)).mono ?_; rintro e w' ⟨rfl, hb⟩; replace HK := Lib.hid (HK.out.after hb); clear hb))
    all_goals
      go_wp2_with fail
      go_ret2
      exact ⟨by rw [← HE.out]; rfl, HK.out.be.plain⟩
theorem num_at {s : ByteArray} {i : Nat} {c : UInt8} (h : i < s.size) (hc : s[i] = c) : (nums s).getD i 0 = (c.toNat : Int) := by
  rw [nums_getD s i h, hc]
set_option maxHeartbeats 1000000 in
theorem word8_ref (s : ByteArray) (i : Nat) (w : World) (h : i + 4 ≤ s.size) (hs : s.size ≤ 1073741824) :
    Calls Try.prog 25 #[.string s, .int .i64 (i : Int)] w fun e w' => e = .returned (.int .u32 (wrd (nums s) i)) ∧ Below w.heap.size w w' := by
  obtain ⟨c0, h0⟩ : ∃ c, s[i] = c := ⟨_, rfl⟩
  obtain ⟨c1, h1⟩ : ∃ c, s[i + 1] = c := ⟨_, rfl⟩
  obtain ⟨c2, h2⟩ : ∃ c, s[i + 2] = c := ⟨_, rfl⟩
  obtain ⟨c3, h3⟩ : ∃ c, s[i + 3] = c := ⟨_, rfl⟩
  have hw : wrd (nums s) i = (c0.toNat : Int) + 256 * c1.toNat + 65536 * c2.toNat + 16777216 * c3.toNat := by
    unfold wrd
    rw [num_at (by omega) h0, num_at (by omega) h1, num_at (by omega) h2, num_at (by omega) h3]
  have b0 := c0.toNat_lt
  have b1 := c1.toNat_lt
  have b2 := c2.toNat_lt
  have b3 := c3.toNat_lt
  rw [hw]
  have i0 : (0 : Int) ≤ (i : Int) := by omega
  have j0 : i < s.size := by omega
  have j1 : i + 1 < s.size := by omega
  have j2 : i + 2 < s.size := by omega
  have j3 : i + 3 < s.size := by omega
  have p1 : (0 : Int) ≤ (i : Int) + 1 := by omega
  have p2 : (0 : Int) ≤ (i : Int) + 2 := by omega
  have p3 : (0 : Int) ≤ (i : Int) + 3 := by omega
  have q1 : ((i : Int) + 1).toNat = i + 1 := by omega
  have q2 : ((i : Int) + 2).toNat = i + 2 := by omega
  have q3 : ((i : Int) + 3).toNat = i + 3 := by omega
  have n1 : IntKind.i64.wrap ((i : Int) + 1) = (i : Int) + 1 := by rw [IntKind.wrap_i64]; omega
  have n2 : IntKind.i64.wrap ((i : Int) + 2) = (i : Int) + 2 := by rw [IntKind.wrap_i64]; omega
  have n3 : IntKind.i64.wrap ((i : Int) + 3) = (i : Int) + 3 := by rw [IntKind.wrap_i64]; omega
  go_enter Try.func25, Try.ntmps25
  go_wp2_with fail
  go_region
  go_wp2_with fail
  go_ret
  exact ⟨rfl, (Below.refl _ _).drew⟩
end Go.Proofs.Ytmifiadkhmglmaa
