/- The law ImageReads: for every text. No condition. -/
import Derived.Test.YtmifiadkhmglmaaImgQ
import Derived.Test.YtmifiadkhmglmaaImgW
namespace Go.Proofs.Ytmifiadkhmglmaa.imageReads
open Go.ChangeShapes Go.WideShapes Go.ChangeAt Go.RowKit
open Go.ChangeMaps (open_string shut_string)
set_option linter.unusedVariables false

theorem img4 {w W : World} {a b : Nat} {t : TypeId} {u0 u1 v0 v1 : Value} {bs : List (Nat × Obj)} (h : Kx none w W ((a, .cells #[u0, u1] t (0, 0)) :: (b, .cells #[v0, v1] t (0, 0)) :: bs)) :
    W.cell? ⟨a, 0, none⟩ = some u0 ∧ W.cell? ⟨a, 1, none⟩ = some u1 ∧ W.cell? ⟨b, 0, none⟩ = some v0 ∧ W.cell? ⟨b, 1, none⟩ = some v1 :=
  ⟨(cells2 (h.at 0 rfl)).1, (cells2 (h.at 0 rfl)).2.1, (cells2 (h.at 1 rfl)).1, (cells2 (h.at 1 rfl)).2.1⟩
set_option maxRecDepth 100000 in
set_option maxHeartbeats 4000000 in
theorem walk (s : ByteArray) (w : World)  :
    Calls Try.prog 5 #[.string s] w fun e w' => e = .returned (.bool true) ∧ Below w.heap.size w w' := by
  by_cases hs : s.size ≤ 8000
  · have i1 : decide ((8000 : Int) < (s.size : Int)) = false := decide_eq_false (by omega)
    have c1 := fun w => read8_code s w (by omega)
    have c2 := fun w => read8_ref s w (by omega)
    obtain ⟨code, hc⟩ : ∃ code, rdc s = code := ⟨_, rfl⟩
    obtain ⟨d, hd⟩ : ∃ d, rdd s = d := ⟨_, rfl⟩
    obtain ⟨n, hl⟩ : ∃ n, code.length = n := ⟨_, rfl⟩
    have hn : n ≤ 2000 := by
      cases hi : igo (nums s) with
      | true =>
        have h7 := (igo_parts hi).2.2.2.2.2.2.2
        have h8 := (ibl_read (nums_byte s) hi).2.2.2
        rw [length_nums] at h7
        rw [← hl, ← hc, (rd_yes hi).2.1]
        omega
      | false => rw [← hl, ← hc, (rd_no hi).2.1]; simp
    have c4 := fun (w : World) (A B : Option Addr) (e k : Nat) (h : Rd w A n code) (h2 : Rd w B n code) => same8_ref (c := e) (e := k) (d1 := d) (d2 := d) w h h2 (by omega) (by omega)
    rw [decide_eq_true (show code = code ∧ d = d from ⟨rfl, rfl⟩)] at c4
    have c5 := fun (w : World) (A : Option Addr) (c : Nat) (h : Rd w A n code) => put8 (c := c) (d := d) w h (by omega)
    rw [hc, hd] at c1 c2
    have HL := Lib.hid hl
    have C4 := Lib.hid c4
    have HK := Lib.hid (Kx.nil none w)
    cases hi : igo (nums s) with
    | true =>
      have hp : pts code d = s ∧ pte code d = 0 := by
        have h := ibl_read (nums_byte s) hi
        have hx := rd_yes hi
        rw [← hc, ← hd, hx.2.1, hx.2.2]
        refine ⟨?_, by unfold pte; rw [h.2.1]; rfl⟩
        unfold pts
        rw [h.2.1]
        show ibs _ _ = s
        unfold ibs
        rw [h.1, strOfNums_nums]
      rw [hp.1, hp.2] at c5
      rw [(rd_yes hi).1] at c1 c2
      have e1 : (s.toList == s.toList) = true := by simp
      have C1 := Lib.hid c1
      have C2 := Lib.hid c2
      have C5 := Lib.hid c5
      clear c1 c2 c4 c5 hc hd hl hi hp
      go_enter Try.func5, Try.ntmps5
      go_wp2_with fail
      refine (awake8 _).mono ?_
      rintro e w0 ⟨rfl, hb⟩
      replace HK := Lib.hid (HK.out.after hb)
      clear hb
      go_wp2_with fail
      refine (C1.out _).mono ?_
      rintro e w1 ⟨v1, rfl, hi1, hb⟩
      obtain ⟨A1, n1, k1, rfl, hr1, _, _⟩ := hi1
      obtain rfl : n = n1 := by rw [← hr1.1]; exact HL.out.symm
      replace HK := Lib.hid ((HK.out.after hb).more (.cells #[.slice A1 n k1, .int .i64 d] 24 (0, 0)))
      replace hr1 := Lib.hid (hr1.below ((Below.refl _ _).alloc (Nat.le_refl _) (.cells #[.slice A1 n k1, .int .i64 d] 24 (0, 0))))
      clear hb
      go_wp2_with fail
      refine (C2.out _).mono ?_
      rintro e w2 ⟨v2, rfl, hi2, hb⟩
      obtain ⟨A2, n2, k2, rfl, hr2, _, _⟩ := hi2
      obtain rfl : n = n2 := by rw [← hr2.1]; exact HL.out.symm
      replace HK := Lib.hid ((HK.out.after hb).more (.cells #[.slice A2 n k2, .int .i64 d] 24 (0, 0)))
      replace hr1 := Lib.hid ((hr1.out.below hb).below ((Below.refl _ _).alloc (Nat.le_refl _) (.cells #[.slice A2 n k2, .int .i64 d] 24 (0, 0))))
      replace hr2 := Lib.hid (hr2.below ((Below.refl _ _).alloc (Nat.le_refl _) (.cells #[.slice A2 n k2, .int .i64 d] 24 (0, 0))))
      clear hb
      obtain ⟨a0, a1, b0, b1⟩ := img4 HK.out
      go_wp2_with fail
      refine (C4.out _ _ _ _ _ hr1.out hr2.out).mono ?_
      rintro e w3 ⟨rfl, hb⟩
      replace HK := Lib.hid (HK.out.after hb)
      replace hr1 := Lib.hid (hr1.out.below hb)
      clear hb a0 a1 b0 b1
      obtain ⟨a0, a1, b0, b1⟩ := img4 HK.out
      go_wp2_with fail
      refine (C5.out _ _ _ hr1.out).mono ?_
      rintro e w4 ⟨rfl, hb⟩
      replace HK := Lib.hid (HK.out.after hb)
      clear hb a0 a1 b0 b1
      go_wp2_with fail
      go_ret
      exact ⟨rfl, HK.out.be.plain⟩
    | false =>
      rw [(rd_no hi).1] at c1 c2
      have C1 := Lib.hid c1
      have C2 := Lib.hid c2
      clear c1 c2 c4 c5 hc hd hl hi
      go_enter Try.func5, Try.ntmps5
      go_wp2_with fail
      refine (awake8 _).mono ?_
      rintro e w0 ⟨rfl, hb⟩
      replace HK := Lib.hid (HK.out.after hb)
      clear hb
      go_wp2_with fail
      refine (C1.out _).mono ?_
      rintro e w1 ⟨v1, rfl, hi1, hb⟩
      obtain ⟨A1, n1, k1, rfl, hr1, _, _⟩ := hi1
      obtain rfl : n = n1 := by rw [← hr1.1]; exact HL.out.symm
      replace HK := Lib.hid ((HK.out.after hb).more (.cells #[.slice A1 n k1, .int .i64 d] 24 (0, 0)))
      replace hr1 := Lib.hid (hr1.below ((Below.refl _ _).alloc (Nat.le_refl _) (.cells #[.slice A1 n k1, .int .i64 d] 24 (0, 0))))
      clear hb
      go_wp2_with fail
      refine (C2.out _).mono ?_
      rintro e w2 ⟨v2, rfl, hi2, hb⟩
      obtain ⟨A2, n2, k2, rfl, hr2, _, _⟩ := hi2
      obtain rfl : n = n2 := by rw [← hr2.1]; exact HL.out.symm
      replace HK := Lib.hid ((HK.out.after hb).more (.cells #[.slice A2 n k2, .int .i64 d] 24 (0, 0)))
      replace hr1 := Lib.hid ((hr1.out.below hb).below ((Below.refl _ _).alloc (Nat.le_refl _) (.cells #[.slice A2 n k2, .int .i64 d] 24 (0, 0))))
      replace hr2 := Lib.hid (hr2.below ((Below.refl _ _).alloc (Nat.le_refl _) (.cells #[.slice A2 n k2, .int .i64 d] 24 (0, 0))))
      clear hb
      obtain ⟨a0, a1, b0, b1⟩ := img4 HK.out
      go_wp2_with fail
      refine (C4.out _ _ _ _ _ hr1.out hr2.out).mono ?_
      rintro e w3 ⟨rfl, hb⟩
      replace HK := Lib.hid (HK.out.after hb)
      replace hr1 := Lib.hid (hr1.out.below hb)
      clear hb a0 a1 b0 b1
      obtain ⟨a0, a1, b0, b1⟩ := img4 HK.out
      go_wp2_with fail
      go_ret
      exact ⟨rfl, HK.out.be.plain⟩
  · have i1 : decide ((8000 : Int) < (s.size : Int)) = true := decide_eq_true (by omega)
    have HK := Lib.hid (Kx.nil none w)
    go_enter Try.func5, Try.ntmps5
    go_wp2_with fail
    refine (awake8 _).mono ?_
    rintro e w0 ⟨rfl, hb⟩
    replace HK := Lib.hid (HK.out.after hb)
    clear hb
    go_wp2_with fail
    go_ret
    exact ⟨rfl, HK.out.be.plain⟩

set_option maxRecDepth 100000 in
theorem lifted (os : Os) (started : os.Started) (H : Type) (enc : TypeId × Value → H) :
    ReturnsInHanded {} Try.checked os 5 .any (Rows.imageReadsSpec.pre6 enc Try.prog Try.f5 Rows.imageReadsRow.domain false) (Rows.imageReadsSpec.post enc Try.prog Try.f5 false true false false) := by
  refine returnsInHanded_of_change (C := Try.checked) own started (by kernel_rfl) Try.func5
    (ChangeSpec.witness6 (enc := enc) (C := Try.checked) false ⟨#[], #[.string ByteArray.empty], []⟩ 8 (by kernel_rfl) (by kernel_rfl) (by kernel_rfl) (by kernel_rfl)) ?_
  intro W base args ds gs before hval0 hW hcnd _
  have hval : ∀ (j : Nat) t v, Try.f5.params[j]? = some t → args[j]? = some v → Value.okWide Try.prog W .any base t v := hval0
  have hW' := hW
  obtain ⟨p, q, hA0, hV, rfl, hfz, hnd⟩ := hW
  have hA : DataW.TrodAll enc Try.prog W 0 (fun _ => true) true Try.f5.params.toList args.toList ds p := hA0
  rw [Try.params5] at hA hval
  obtain ⟨v0, vs0, d0, ds0, p0, q0, hargs, rfl, rfl, h0, r0⟩ := trodAll_cons hA
  obtain ⟨rfl, rfl, rfl⟩ := trodAll_nil r0
  obtain rfl : args = #[v0] := by cases args; simp_all
  obtain ⟨rfl, rfl⟩ := trodVars_none hV
  have lt0 : ∀ x ∈ p0, x.block < W.heap.size := by obtain ⟨m, hm⟩ := h0; exact DataW.trod_lt m _ _ _ hm
  have k0 := h0
  obtain ⟨a0, rfl, _, _, w0⟩ := open_string Try.underlying9 (hval 0 9 v0 rfl rfl) k0
  clear hA0 hval0
  refine (walk a0 W ).mono fun e W' ⟨he, bel⟩ => ?_
  subst he
  exact ⟨_, rfl, _, _, _, [], _, [], hW', trodAll_mk1 (shut_bool Try.underlying4 _), (trodAll_cons_mk (Below.trod laidOut (by kernel_rfl) (of_decide_eq_true (by kernel_rfl)) h0 bel lt0) trodAll_mk0), rfl, bel.frame _, fun h => by cases h⟩

theorem over : Rows.imageReadsRow.holds Try.pinned (OpenSpec.ofChange Rows.imageReadsSpec) :=
  OpenClaim.holds_of_wide 5 Try.f5 rfl rfl rfl rfl rfl rfl rfl ⟨rfl, rfl, rfl, rfl, rfl⟩ rfl rfl rfl rfl rfl (by kernel_rfl) Try.func5 (by kernel_rfl)
    (of_decide_eq_true (by kernel_rfl)) (by unfold Func.isWrapper; first | (rw [if_pos (by decide +kernel)]; kernel_rfl) | (rw [if_neg (by decide +kernel)]; exact ⟨rfl, rfl⟩))
    (fun os started H enc _ => lifted os started H enc)

/-- The statement. -/
theorem proved : Rows.ImageReadsSaid := over

end Go.Proofs.Ytmifiadkhmglmaa.imageReads
