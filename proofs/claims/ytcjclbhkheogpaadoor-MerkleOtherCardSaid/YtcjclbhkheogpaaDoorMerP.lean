/- Check, the code's and the reference's: the contracts; they tell the same. -/
import Derived.Test.YtcjclbhkheogpaaDoorMerJ
import Derived.Test.YtcjclbhkheogpaaDoorMerI
import Derived.Test.YtcjclbhkheogpaaDoorMerO
set_option linter.unusedVariables false
namespace Go.Proofs.YtcjclbhkheogpaaDoor
open Go.RowKit

theorem same_dec (l m : Ws) : same l m = decide (l = m) := rfl
theorem TabsB.up {B B' : Nat} {w : World} (h : TabsB B w) (hb : B ≤ B') : TabsB B' w where
  toTabs := h.toTabs
  lt := Nat.lt_of_lt_of_le h.lt hb
set_option maxHeartbeats 1000000 in
theorem check_no {f0 f1 f2 f3 r0 r1 r2 r3 n i : Int} (A : Option Addr) (c cap : Nat) (w : World) (h : 1000 < n ∨ i < 0 ∨ n ≤ i) :
    Calls Tryd.prog 12 #[ag [r0, r1, r2, r3], .int .i64 n, .int .i64 i, ag [f0, f1, f2, f3], .slice A c cap] w fun e w' => e = .returned (.bool false) ∧ Below w.heap.size w w' := by
  rw [ag4, ag4]
  by_cases h1 : 1000 < n
  · go_enter Tryd.func12, Tryd.ntmps12
    go_wp2_with fail
    go_ret
    exact ⟨rfl, below2 _ _ _⟩
  · by_cases h2 : i < 0
    · go_enter Tryd.func12, Tryd.ntmps12
      go_wp2_with fail
      go_ret
      exact ⟨rfl, below2 _ _ _⟩
    · have h3 : n ≤ i := by omega
      go_enter Tryd.func12, Tryd.ntmps12
      go_wp2_with fail
      go_ret
      exact ⟨rfl, below2 _ _ _⟩
def chk (root : Ws) (n i : Nat) (leaf : Ws) (l : Dl) : Bool := (mcr n i leaf l).2.1 && ((mcr n i leaf l).2.2.length == 0) && same (mcr n i leaf l).1 root
set_option maxRecDepth 100000 in
set_option maxHeartbeats 4000000 in
theorem check_yes {f0 f1 f2 f3 r0 r1 r2 r3 : Int} {A : Option Addr} {n i c cap : Nat} {l : Dl} (w : World) (hi : i < n) (hn : n ≤ 1000) (hl : l.length = c) (hc : c ≤ 1024) (hcc : c ≤ cap) (hm : cap ≤ 9223372036854775807) (ho : Ok4 [f0, f1, f2, f3]) (hd : Dd w A l) (ht : Tabs w) :
    Calls Tryd.prog 12 #[ag [r0, r1, r2, r3], .int .i64 (n : Int), .int .i64 (i : Int), ag [f0, f1, f2, f3], .slice A c cap] w fun e w' => e = .returned (.bool (chk [r0, r1, r2, r3] n i [f0, f1, f2, f3] l)) ∧ Below w.heap.size w w' := by
  have c1 := fun w p => rest_code n i p c cap A [f0, f1, f2, f3] l w hi (by omega) hl hc hcc hm ho hd.1
  have hx := mcr_ok n i [f0, f1, f2, f3] l ho hd.1
  unfold chk
  obtain ⟨CR, hCR⟩ : ∃ CR, mcr n i [f0, f1, f2, f3] l = CR := ⟨_, rfl⟩
  rw [hCR] at c1 hx ⊢
  obtain ⟨x, okb, left⟩ := CR
  obtain ⟨x0, x1, x2, x3, rfl, _⟩ := ok4 hx
  simp only at c1
  show Calls _ _ _ _ fun e w' => e = .returned (.bool (okb && (left.length == 0) && same [x0, x1, x2, x3] [r0, r1, r2, r3])) ∧ Below w.heap.size w w'
  obtain ⟨q, hq⟩ : ∃ q, left.length = q := ⟨_, rfl⟩
  rw [hq] at c1 ⊢
  have g0 : ¬ (1000 : Int) < (n : Int) := by omega
  have g1 : ¬ (i : Int) < 0 := by omega
  have g2 : ¬ (n : Int) ≤ (i : Int) := by omega
  have C1 := Lib.hid c1
  have HD := Lib.hid hd
  have HT := Lib.hid ht.at
  have HK := Lib.hid ((((Kx.nil none w).add _ rfl (.cells #[.int .u32 r0, .int .u32 r1, .int .u32 r2, .int .u32 r3] 26 (0, 0))).add (w.heap.size + 1) (by simp) (.cells #[.int .u32 f0, .int .u32 f1, .int .u32 f2, .int .u32 f3] 26 (0, 0))).add (w.heap.size + 1 + 1) (by simp) (restO (.slice A c cap)))
  have HDQ : Hid (Dq (((w.alloc (.cells #[.int .u32 r0, .int .u32 r1, .int .u32 r2, .int .u32 r3] 26 (0, 0))).alloc (.cells #[.int .u32 f0, .int .u32 f1, .int .u32 f2, .int .u32 f3] 26 (0, 0))).alloc (restO (.slice A c cap))) (w.heap.size + 1 + 1) A l) := Lib.hid (fun hl0 => by
    obtain ⟨b, off, e, r⟩ := HD.out.2 hl0
    exact ⟨b, off, e, (by have := r.lt; omega), r.oldn HK.out⟩)
  have HTB := Lib.hid ((HT.out.below HK.out.be.plain).up (show w.heap.size ≤ w.heap.size + 1 + 1 by omega))
  have q4 := eq4s
  have HQ2 := Lib.hid (show w.heap.size ≤ w.heap.size + 1 + 1 by omega)
  obtain ⟨res, hres⟩ : ∃ res, (okb && (q == 0) && same [x0, x1, x2, x3] [r0, r1, r2, r3]) = res := ⟨_, rfl⟩
  have HRES := Lib.hid hres
  rw [hres, ag4, ag4]
  obtain ⟨sb, hsb⟩ : ∃ sb, same [x0, x1, x2, x3] [r0, r1, r2, r3] = sb := ⟨_, rfl⟩
  have HSB := Lib.hid hsb
  clear c1 hx hCR hq hd ht ho hl hres hsb hi
  go_enter Tryd.func12, Tryd.ntmps12
  go_wp2_with fail
  refine (C1.out _ _ HDQ.out (HK.out.at 2 rfl) HTB.out).mono ?_
  rintro e w1 ⟨rfl, hb, hpp⟩
  replace HK := Lib.hid ((HK.out.afterq 2 rfl (.inr HQ2.out) hb hpp).add _ rfl (.cells #[.int .u32 x0, .int .u32 x1, .int .u32 x2, .int .u32 x3] 26 (0, 0)))
  clear hb hpp
  obtain ⟨a0, a1, a2, a3, _⟩ := cells4 (HK.out.at 0 rfl)
  obtain ⟨p0, p1⟩ := cells1 (HK.out.at 2 rfl)
  have i0 : ((0 : Nat) : Int) = 0 := rfl
  rw [ag4]
  have S := HRES.out
  cases okb
  · have S2 : Hid (res = false) := Lib.hid (by rw [← S]; rfl)
    clear S
    go_wp2_with fail
    go_ret
    exact ⟨by rw [S2.out]; rfl, HK.out.be.plain⟩
  · by_cases h0 : q = 0
    · subst h0
      have S2 : Hid (res = sb) := Lib.hid (by rw [← S, HSB.out]; simp)
      have S3 : same [x0, x1, x2, x3] [r0, r1, r2, r3] = sb := HSB.out
      clear S
      go_wp2_with fail
      go_ret
      exact ⟨by rw [S2.out]; rfl, HK.out.be.plain⟩
    · have j0 : ((q : Int) == 0) = false := by rw [beq_eq_false_iff_ne]; omega
      have j1 : (q == 0) = false := by rw [beq_eq_false_iff_ne]; omega
      have S2 : Hid (res = false) := Lib.hid (by rw [← S, j1]; simp)
      clear S
      go_wp2_with fail
      go_ret
      exact ⟨by rw [S2.out]; rfl, HK.out.be.plain⟩
def chkr (root : Ws) (n i : Nat) (leaf : Ws) (l : Dl) : Bool := (mup n i leaf l).2 && same (mup n i leaf l).1 root
theorem chk_same (root : Ws) (n i : Nat) (leaf : Ws) (l : Dl) : chk root n i leaf l = chkr root n i leaf l := by
  obtain ⟨h1, h2⟩ := cr_up n i leaf l
  unfold chk chkr
  have e : ((mcr n i leaf l).2.2.length == 0) = (mcr n i leaf l).2.2.isEmpty := by cases (mcr n i leaf l).2.2 <;> simp
  rw [e, h1]
  cases hk : (mcr n i leaf l).2.1
  · simp
  · rw [h2 hk]
theorem chk_long (root : Ws) (n i : Nat) (leaf : Ws) (l : Dl) (hn : n ≤ 1000) (hl : 20 < l.length) : chk root n i leaf l = false := by
  have h := cr_left_over 10 n i leaf l (by omega)
  unfold chk
  cases hk : (mcr n i leaf l).2.1
  · simp
  · have := h hk
    have e : ((mcr n i leaf l).2.2.length == 0) = false := by rw [beq_eq_false_iff_ne]; omega
    rw [e]; simp
end Go.Proofs.YtcjclbhkheogpaaDoor
