/- Layer 8 (image): the contracts of Right, Same and Put over the program's code. -/
import Derived.Test.YtmifiadkhmglmaaImgC
import Derived.Test.YtmifiadkhmglmaaImgB
set_option linter.unusedVariables false
namespace Go.Proofs.Ytmifiadkhmglmaa
open Go.RowKit

set_option maxHeartbeats 1000000 in
theorem right8 {A : Option Addr} {n c : Nat} {d : Int} (code : List Int) (w : World) (hn : code.length = n) (hn2 : n ≤ 9223372036854775807) :
    Calls Try.prog 11 #[.agg #[.slice A n c, .int .i64 d]] w fun e w' => e = .returned (.bool (irt code d)) ∧ Below w.heap.size w w' := by
  have HK := Lib.hid ((Kx.nil none w).more (.cells #[.slice A n c, .int .i64 d] 24 (0, 0)))
  obtain ⟨a0, a1, _⟩ := cells2 (HK.out.at 0 rfl)
  by_cases h1 : code.length ≤ 16384
  · have i1 : (n : Int) ≤ 16384 := by omega
    by_cases h2 : 0 ≤ d
    · by_cases h3 : d ≤ 32768
      · have e : irt code d = true := by simp [irt, h1, h2, h3]
        rw [e]
        go_enter Try.func11, Try.ntmps11
        go_wp2_with fail
        go_ret
        exact ⟨rfl, HK.out.be.plain⟩
      · have e : irt code d = false := by simp [irt, h3]
        have i3 : decide (d ≤ 32768) = false := decide_eq_false h3
        rw [e]
        go_enter Try.func11, Try.ntmps11
        go_wp2_with fail
        go_ret
        exact ⟨rfl, HK.out.be.plain⟩
    · have e : irt code d = false := by simp [irt, h2]
      have i2 : decide (0 ≤ d) = false := decide_eq_false h2
      rw [e]
      go_enter Try.func11, Try.ntmps11
      go_wp2_with fail
      go_ret
      exact ⟨rfl, HK.out.be.plain⟩
  · have e : irt code d = false := by simp [irt, h1]
    have i1 : decide ((n : Int) ≤ 16384) = false := decide_eq_false (by omega)
    rw [e]
    go_enter Try.func11, Try.ntmps11
    go_wp2_with fail
    go_ret
    exact ⟨rfl, HK.out.be.plain⟩
set_option maxRecDepth 100000 in
set_option maxHeartbeats 2000000 in
/-- slices.Equal of two slices of words. -/
theorem equal8 {A B : Option Addr} {n c m e : Nat} {k1 k2 : List Int} (w : World) (ha : Rd w A n k1) (hb : Rd w B m k2) (hn : n ≤ 1073741824) (hm : m ≤ 1073741824) :
    Calls Try.prog 19 #[.slice A n c, .slice B m e] w fun en w' => en = .returned (.bool (decide (k1 = k2))) ∧ Below w.heap.size w w' := by
  have hl1 := ha.1
  have hl2 := hb.1
  by_cases hnm : n = m
  · subst hnm
    have HA := Lib.hid ha
    have HB := Lib.hid hb
    have HL1 := Lib.hid hl1
    have HL2 := Lib.hid hl2
    have HR : Hid (decide (k1 = k2) = decide (k1.drop 0 = k2.drop 0)) := Lib.hid (by simp)
    obtain ⟨r, hr⟩ : ∃ r : Bool, decide (k1 = k2) = r := ⟨_, rfl⟩
    rw [hr] at HR ⊢
    clear ha hb hl1 hl2 hr
    go_enter Try.func19, Try.ntmps19
    go_wp2_with fail
    go_loopw [13] (fun v wr => ∃ k : Nat, k ≤ n ∧ v = .int .i64 (k : Int) ∧ Hid (r = decide (k1.drop k = k2.drop k)) ∧ Hid (Below w.heap.size w wr)) (fun v _ => n - (intOf v).toNat)
    case atStart => exact ⟨0, Nat.zero_le _, rfl, HR, Lib.hid (Below.refl _ _)⟩
    case round =>
      clear HR
      obtain ⟨k, hk, rfl, HR, HK⟩ := hrel
      by_cases hlt : k < n
      · have i0 : (0 : Int) ≤ (k : Int) := by omega
        have i1 : (k : Int) < (n : Int) := by omega
        obtain ⟨p, o, rfl, x1⟩ := (HA.out.below HK.out).cell hlt
        obtain ⟨q, o2, rfl, x2⟩ := (HB.out.below HK.out).cell hlt
        have hx := HR.out
        rw [drop_eq (l := k1) (k := k) (by rw [HL1.out]; exact hlt), drop_eq (l := k2) (k := k) (by rw [HL2.out]; exact hlt)] at hx
        obtain ⟨x, ex⟩ : ∃ x, k1.getD k 0 = x := ⟨_, rfl⟩
        obtain ⟨y, ey⟩ : ∃ y, k2.getD k 0 = y := ⟨_, rfl⟩
        rw [ex, ey] at hx
        rw [ex] at x1
        rw [ey] at x2
        clear ex ey
        by_cases hxy : x = y
        · subst hxy
          have HX : Hid (r = decide (k1.drop (k + 1) = k2.drop (k + 1))) := Lib.hid (by rw [hx]; simp)
          clear hx
          go_wp2_with fail
          go_region
          go_wp2_with fail
          go_roundw
          case rel => exact ⟨k + 1, by omega, by go_num, HX, Lib.hid HK.out.drew⟩
          case measure => simp [intOf]; omega
        · have e1 : (x != y) = true := by rw [bne_iff_ne]; exact hxy
          have HX : Hid (r = false) := Lib.hid (by rw [hx]; simp [hxy])
          clear hx hxy
          go_wp2_with fail
          go_region
          go_wp2_with fail
          go_ret
          exact ⟨ret_bool HX.out.symm, HK.out.drew⟩
      · obtain rfl : k = n := by omega
        have hx := HR.out
        rw [List.drop_eq_nil_of_le (by rw [HL1.out]; omega), List.drop_eq_nil_of_le (by rw [HL2.out]; omega)] at hx
        have HX : Hid (r = true) := Lib.hid (by rw [hx]; simp)
        have u1 : ¬ (k : Int) < (k : Int) := by omega
        clear hx
        go_wp2_with fail
        go_ret
        exact ⟨ret_bool HX.out.symm, HK.out⟩
  · have e1 : ((n : Int) != (m : Int)) = true := by rw [bne_iff_ne]; omega
    rw [decide_eq_false (show ¬ (k1 = k2) from fun h => hnm (by rw [← hl1, ← hl2, h]))]
    clear ha hb hl1 hl2 hnm
    go_enter Try.func19, Try.ntmps19
    go_wp2_with fail
    go_ret
    exact ⟨rfl, Below.refl _ _⟩
set_option maxRecDepth 100000 in
set_option maxHeartbeats 2000000 in
theorem same8 {A B : Option Addr} {n c m e : Nat} {d1 d2 : Int} {k1 k2 : List Int} (w : World) (ha : Rd w A n k1) (hb : Rd w B m k2) (hn : n ≤ 1073741824) (hm : m ≤ 1073741824) :
    Calls Try.prog 13 #[.agg #[.slice A n c, .int .i64 d1], .agg #[.slice B m e, .int .i64 d2]] w fun en w' => en = .returned (.bool (decide (k1 = k2 ∧ d1 = d2))) ∧ Below w.heap.size w w' := by
  have HK := Lib.hid (((Kx.nil none w).more (.cells #[.slice A n c, .int .i64 d1] 24 (0, 0))).add (w.heap.size + 1) (by simp) (.cells #[.slice B m e, .int .i64 d2] 24 (0, 0)))
  obtain ⟨a0, a1, _⟩ := cells2 (HK.out.at 0 rfl)
  obtain ⟨b0, b1, _⟩ := cells2 (HK.out.at 1 rfl)
  by_cases hd : d1 = d2
  · have e1 : (d1 == d2) = true := by rw [beq_iff_eq]; exact hd
    have c1 := fun W (hk : Rd W A n k1) (hk2 : Rd W B m k2) => equal8 (c := c) (e := e) W hk hk2 hn hm
    rw [show decide (k1 = k2 ∧ d1 = d2) = decide (k1 = k2) from by simp [hd]]
    obtain ⟨r, hr⟩ : ∃ r : Bool, decide (k1 = k2) = r := ⟨_, rfl⟩
    rw [hr] at c1 ⊢
    have C1 := Lib.hid c1
    have HA := Lib.hid ha
    have HB := Lib.hid hb
    clear c1 hr ha hb hd
    go_enter Try.func13, Try.ntmps13
    go_wp2_with fail
    refine (C1.out _ (HA.out.kx HK.out) (HB.out.kx HK.out)).mono ?_
    rintro e w1 ⟨rfl, hb⟩
    replace HK := Lib.hid (HK.out.after hb)
    clear hb a0 a1 b0 b1
    go_wp2_with fail
    go_ret
    exact ⟨rfl, HK.out.be.plain⟩
  · have e1 : (d1 == d2) = false := by rw [beq_eq_false_iff_ne]; exact hd
    rw [decide_eq_false (show ¬ (k1 = k2 ∧ d1 = d2) from fun h => hd h.2)]
    clear ha hb hd
    go_enter Try.func13, Try.ntmps13
    go_wp2_with fail
    go_ret
    exact ⟨rfl, HK.out.be.plain⟩
/-- The front's two words, in a block known whole. -/
theorem front8 {w W : World} {q : Nat} {t : TypeId} {a b : Int} {x : Nat × Obj} (h : Kx none w W [x, (q, .cells #[.int .u32 a, .int .u32 b] t (0, 0))]) (ha : 0 ≤ a ∧ a < 4294967296) (hb : 0 ≤ b ∧ b < 4294967296) : Rd W (some ⟨q, 0, none⟩) 2 [a, b] := by
  have hr : W.heap[q]? = some (.cells #[.int .u32 a, .int .u32 b] t (0, 0)) := h.at 1 rfl
  obtain ⟨c0, c1, _⟩ := cells2 hr
  refine ⟨rfl, .inr ⟨q, 0, rfl, (Array.getElem?_eq_some_iff.1 hr).1, fun j hj => ?_⟩, fun j => ?_⟩
  · match j, hj with
    | 0, _ => exact c0
    | 1, _ => exact c1
  · match j with
    | 0 => exact ha
    | 1 => exact hb
    | k + 2 => simp
set_option maxRecDepth 100000 in
set_option maxHeartbeats 2000000 in
theorem put8 {A : Option Addr} {n c : Nat} {d : Int} {code : List Int} (w : World) (ha : Rd w A n code) (hn : n ≤ 4096) :
    Calls Try.prog 15 #[.agg #[.slice A n c, .int .i64 d]] w fun en w' => en = .returned (.tuple #[.string (pts code d), .int .i64 (pte code d)]) ∧ Below w.heap.size w w' := by
  have hl := ha.1
  have c1 := fun w => right8 (A := A) (c := c) (d := d) code w hl (by omega)
  have HK := Lib.hid ((Kx.nil none w).more (.cells #[.slice A n c, .int .i64 d] 24 (0, 0)))
  obtain ⟨a0, a1, _⟩ := cells2 (HK.out.at 0 rfl)
  cases hr : irt code d with
  | false =>
    rw [show pts code d = ⟨#[]⟩ from by unfold pts; rw [hr]; rfl, show pte code d = 1 from by unfold pte; rw [hr]; rfl]
    rw [hr] at c1
    have C1 := Lib.hid c1
    clear c1 hr ha hl
    go_enter Try.func15, Try.ntmps15
    go_wp2_with fail
    refine (C1.out _).mono ?_
    rintro e w1 ⟨rfl, hb⟩
    replace HK := Lib.hid (HK.out.after hb)
    clear hb a0 a1
    go_wp2_with fail
    go_ret2
    exact ⟨rfl, HK.out.be.plain⟩
  | true =>
    rw [show pts code d = ibs code d from by unfold pts; rw [hr]; rfl, show pte code d = 0 from by unfold pte; rw [hr]; rfl]
    have hi := irt_yes hr
    rw [hr] at c1
    have z1 : IntKind.u32.wrap (n : Int) = (n : Int) := by rw [IntKind.wrap_u32]; omega
    have z2 : IntKind.u32.wrap d = d := by rw [IntKind.wrap_u32]; omega
    have i1 : (n : Int) % 4294967296 = (n : Int) := by omega
    have i2 : d % 4294967296 = d := by omega
    have g1 : 0 ≤ (n : Int) ∧ (n : Int) < 4294967296 := by omega
    have g2 : 0 ≤ d ∧ d < 4294967296 := by omega
    have c2 := fun (W : World) (q : Nat) (h : Rd W (some ⟨q, 0, none⟩) 2 [(n : Int), d]) => bytes_rd (cap := 2) h (by omega)
    have c3 := fun (w : World) (h : Rd w A n code) => bytes_rd (cap := c) h hn
    have hE := ibs_eq code d
    rw [hl] at hE
    have hs1 : (strOfNums (bytsAll [(n : Int), d])).size = 8 := by rw [strOfNums_size, length_bytsAll]; rfl
    have hs2 : (strOfNums (bytsAll code)).size = 4 * n := by rw [strOfNums_size, length_bytsAll, hl]
    obtain ⟨S1, hS1⟩ : ∃ S, strOfNums (bytsAll [(n : Int), d]) = S := ⟨_, rfl⟩
    obtain ⟨S2, hS2⟩ : ∃ S, strOfNums (bytsAll code) = S := ⟨_, rfl⟩
    obtain ⟨T, hT⟩ : ∃ T, ibs code d = T := ⟨_, rfl⟩
    rw [hS1] at c2 hs1 hE
    rw [hS2] at c3 hs2 hE
    rw [hT] at hE ⊢
    obtain ⟨m1, hm1⟩ : ∃ m, m = 8 := ⟨_, rfl⟩
    obtain ⟨m2, hm2⟩ : ∃ m, m = 4 * n := ⟨_, rfl⟩
    rw [← hm1] at hs1
    rw [← hm2] at hs2
    have q1 : ((⟨#[83, 69, 69, 68]⟩ : ByteArray) ++ S1).size = 4 + m1 := by rw [ByteArray.size_append, hs1]; rfl
    have n1 : ¬ 9223372036854775807 < 4 + m1 := by omega
    have n2 : ¬ 9223372036854775807 < 4 + m1 + m2 := by omega
    have C1 := Lib.hid c1
    have C2 := Lib.hid c2
    have C3 := Lib.hid c3
    have HA := Lib.hid ha
    have HE := Lib.hid hE
    have G1 := Lib.hid g1
    have G2 := Lib.hid g2
    clear c1 c2 c3 hr ha hl hi hE hS1 hS2 hT hm1 hm2 g1 g2
    go_enter Try.func15, Try.ntmps15
    go_wp2_with fail
    refine (C1.out _).mono ?_
    rintro e w1 ⟨rfl, hb⟩
    replace HK := Lib.hid (HK.out.after hb)
    clear hb a0 a1
    obtain ⟨a0, a1, _⟩ := cells2 (HK.out.at 0 rfl)
    go_wp2_with fail
    obtain ⟨q, hq⟩ : ∃ q, w1.heap.size = q := ⟨_, rfl⟩
    simp only [hq]
    obtain ⟨w2, hw2⟩ : ∃ w2, w1.alloc (.cells #[.int .u32 (n : Int), .int .u32 d] 35) = w2 := ⟨_, rfl⟩
    have HK2 := Lib.hid (HK.out.add q hq (.cells #[.int .u32 (n : Int), .int .u32 d] 35 (0, 0)))
    rw [hw2] at HK2 ⊢
    clear HK a0 a1 hw2 hq
    go_region_held3 (fun W => W.cell? ⟨w.heap.size, 0, none⟩ = some (.slice A n c) ∧ W.cell? ⟨w.heap.size, 1, none⟩ = some (.int .i64 d))
      (first | exact two8D HK2.out | exact two8 HK2.out)
      (first
        | (go_at_call 20; with_reducible refine (C2.out _ q (front8 HK2.out G1.out G2.out)).mono ?_; rintro e w' ⟨rfl, hb⟩; replace HK2 := Lib.hid (HK2.out.after hb); clear hb)
        | (go_at_call 20; with_reducible refine (C2.out _ q (front8 HK2.out.drew G1.out G2.out)).mono ?_; rintro e w' ⟨rfl, hb⟩; replace HK2 := Lib.hid (HK2.out.drew.after hb); clear hb)
        | (go_at_call 20; with_reducible refine (C3.out _ (HA.out.kx HK2.out)).mono ?_; rintro e w' ⟨rfl, hb⟩; replace HK2 := Lib.hid (HK2.out.after hb); clear hb)
        | fail)
    all_goals
      go_wp2_with fail
      go_ret2
      exact ⟨by rw [← HE.out]; rfl, HK2.out.be.plain⟩
end Go.Proofs.Ytmifiadkhmglmaa
