/- CheckOn, the code's and the reference's: the contracts; they tell the same. -/
import Derived.Test.YtioiaifmcemjlaaDoorMerP
import Derived.Test.YtioiaifmcemjlaaDoorMerQ
set_option linter.unusedVariables false
namespace Go.Proofs.YtioiaifmcemjlaaDoor
open Go.RowKit

set_option maxHeartbeats 1000000 in
theorem checkOn_no {f0 f1 f2 f3 r0 r1 r2 r3 m n : Int} (A : Option Addr) (c cap : Nat) (w : World) (h : 1000 < n ∨ m < 1 ∨ n < m) :
    Calls Tryd.prog 24 #[ag [f0, f1, f2, f3], .int .i64 m, ag [r0, r1, r2, r3], .int .i64 n, .slice A c cap] w fun e w' => e = .returned (.bool false) ∧ Below w.heap.size w w' := by
  rw [ag4, ag4]
  by_cases h1 : 1000 < n
  · go_enter Tryd.func24, Tryd.ntmps24
    go_wp2_with fail
    go_ret
    exact ⟨rfl, below2 _ _ _⟩
  · by_cases h2 : m < 1
    · go_enter Tryd.func24, Tryd.ntmps24
      go_wp2_with fail
      go_ret
      exact ⟨rfl, below2 _ _ _⟩
    · have h3 : n < m := by omega
      go_enter Tryd.func24, Tryd.ntmps24
      go_wp2_with fail
      go_ret
      exact ⟨rfl, below2 _ _ _⟩
def chkOn (old : Ws) (m : Nat) (root : Ws) (n : Nat) (l : Dl) : Bool := (mrts m n old true l).2.1 && ((mrts m n old true l).2.2.length == 0) && sameP (mrts m n old true l).1.1 (mrts m n old true l).1.2 old root
set_option maxRecDepth 100000 in
set_option maxHeartbeats 4000000 in
theorem checkOn_yes {f0 f1 f2 f3 r0 r1 r2 r3 : Int} {A : Option Addr} {n m c cap : Nat} {l : Dl} (w : World) (h1 : 1 ≤ m) (hmn : m ≤ n) (hn : n ≤ 1000) (hl : l.length = c) (hc : c ≤ 1024) (hcc : c ≤ cap) (hm : cap ≤ 9223372036854775807) (ho : Ok4 [f0, f1, f2, f3]) (hd : Dd w A l) (ht : Tabs w) :
    Calls Tryd.prog 24 #[ag [f0, f1, f2, f3], .int .i64 (m : Int), ag [r0, r1, r2, r3], .int .i64 (n : Int), .slice A c cap] w fun e w' => e = .returned (.bool (chkOn [f0, f1, f2, f3] m [r0, r1, r2, r3] n l)) ∧ Below w.heap.size w w' := by
  have c1 := fun w p => roots_code n m p c cap A [f0, f1, f2, f3] true l w h1 hmn (by omega) hl hc hcc hm ho hd.1
  have hx := mrts_ok m n [f0, f1, f2, f3] true l ho hd.1
  unfold chkOn
  obtain ⟨CR, hCR⟩ : ∃ CR, mrts m n [f0, f1, f2, f3] true l = CR := ⟨_, rfl⟩
  rw [hCR] at c1 hx ⊢
  obtain ⟨⟨x, y⟩, okb, left⟩ := CR
  obtain ⟨hx, hy⟩ := hx
  obtain ⟨x0, x1, x2, x3, rfl, _⟩ := ok4 hx
  obtain ⟨y0, y1, y2, y3, rfl, _⟩ := ok4 hy
  simp only at c1
  show Calls _ _ _ _ fun e w' => e = .returned (.bool (okb && (left.length == 0) && sameP [x0, x1, x2, x3] [y0, y1, y2, y3] [f0, f1, f2, f3] [r0, r1, r2, r3])) ∧ Below w.heap.size w w'
  obtain ⟨q, hq⟩ : ∃ q, left.length = q := ⟨_, rfl⟩
  rw [hq] at c1 ⊢
  have g0 : ¬ (1000 : Int) < (n : Int) := by omega
  have g1 : ¬ (m : Int) < 1 := by omega
  have g2 : ¬ (n : Int) < (m : Int) := by omega
  have C1 := Lib.hid c1
  have HD := Lib.hid hd
  have HT := Lib.hid ht.at
  have HK := Lib.hid ((((Kx.nil none w).add _ rfl (.cells #[.int .u32 f0, .int .u32 f1, .int .u32 f2, .int .u32 f3] 29 (0, 0))).add (w.heap.size + 1) (by simp) (.cells #[.int .u32 r0, .int .u32 r1, .int .u32 r2, .int .u32 r3] 29 (0, 0))).add (w.heap.size + 1 + 1) (by simp) (restO (.slice A c cap)))
  have HDQ : Hid (Dq (((w.alloc (.cells #[.int .u32 f0, .int .u32 f1, .int .u32 f2, .int .u32 f3] 29 (0, 0))).alloc (.cells #[.int .u32 r0, .int .u32 r1, .int .u32 r2, .int .u32 r3] 29 (0, 0))).alloc (restO (.slice A c cap))) (w.heap.size + 1 + 1) A l) := Lib.hid (fun hl0 => by
    obtain ⟨b, off, e, r⟩ := HD.out.2 hl0
    exact ⟨b, off, e, (by have := r.lt; omega), r.oldn HK.out⟩)
  have HTB := Lib.hid ((HT.out.below HK.out.be.plain).up (show w.heap.size ≤ w.heap.size + 1 + 1 by omega))
  have q4 := eq71
  have HQ2 := Lib.hid (show w.heap.size ≤ w.heap.size + 1 + 1 by omega)
  obtain ⟨res, hres⟩ : ∃ res, (okb && (q == 0) && sameP [x0, x1, x2, x3] [y0, y1, y2, y3] [f0, f1, f2, f3] [r0, r1, r2, r3]) = res := ⟨_, rfl⟩
  have HRES := Lib.hid hres
  rw [hres, ag4, ag4]
  obtain ⟨sb, hsb⟩ : ∃ sb, sameP [x0, x1, x2, x3] [y0, y1, y2, y3] [f0, f1, f2, f3] [r0, r1, r2, r3] = sb := ⟨_, rfl⟩
  have HSB := Lib.hid hsb
  clear c1 hx hy hCR hq hd ht ho hl hres hsb
  go_enter Tryd.func24, Tryd.ntmps24
  go_wp2_with fail
  refine (C1.out _ _ HDQ.out (HK.out.at 2 rfl) HTB.out).mono ?_
  rintro e w1 ⟨rfl, hb, hpp⟩
  replace HK := Lib.hid ((HK.out.afterq 2 rfl (.inr HQ2.out) hb hpp).add _ rfl (.cells #[.int .u32 x0, .int .u32 x1, .int .u32 x2, .int .u32 x3, .int .u32 y0, .int .u32 y1, .int .u32 y2, .int .u32 y3] 71 (0, 0)))
  clear hb hpp
  obtain ⟨a0, a1, a2, a3, _⟩ := cells4 (HK.out.at 0 rfl)
  obtain ⟨b0, b1, b2, b3, _⟩ := cells4 (HK.out.at 1 rfl)
  obtain ⟨p0, p1⟩ := cells1 (HK.out.at 2 rfl)
  rw [ag44]
  have S := HRES.out
  cases okb
  · have S2 : Hid (res = false) := Lib.hid (by rw [← S]; rfl)
    clear S
    go_wp2_with fail
    go_ret
    exact ⟨by rw [S2.out]; rfl, HK.out.be.plain⟩
  · by_cases h0 : q = 0
    · subst h0
      have S2 : Hid (res = sb) := Lib.hid (by rw [← S, HSB.out]; simp)
      have S3 : sameP [x0, x1, x2, x3] [y0, y1, y2, y3] [f0, f1, f2, f3] [r0, r1, r2, r3] = sb := HSB.out
      clear S
      go_wp2_with fail
      go_ret
      exact ⟨by rw [S2.out]; rfl, HK.out.be.plain⟩
    · have j0 : ((q : Int) == 0) = false := by rw [beq_eq_false_iff_ne]; omega
      have j1 : (q == 0) = false := by rw [beq_eq_false_iff_ne]; omega
      have S2 : Hid (res = false) := Lib.hid (by rw [← S, j1]; simp)
      clear S
      go_wp2_with fail
      go_ret
      exact ⟨by rw [S2.out]; rfl, HK.out.be.plain⟩
set_option maxHeartbeats 1000000 in
theorem checkOnr_no {f0 f1 f2 f3 r0 r1 r2 r3 m n : Int} (A : Option Addr) (c cap : Nat) (w : World) (h : 1000 < n ∨ m < 1 ∨ n < m) :
    Calls Tryd.prog 25 #[ag [f0, f1, f2, f3], .int .i64 m, ag [r0, r1, r2, r3], .int .i64 n, .slice A c cap] w fun e w' => e = .returned (.bool false) ∧ Below w.heap.size w w' := by
  rw [ag4, ag4]
  by_cases h1 : 1000 < n
  · go_enter Tryd.func25, Tryd.ntmps25
    go_wp2_with fail
    go_ret
    exact ⟨rfl, below2 _ _ _⟩
  · by_cases h2 : m < 1
    · go_enter Tryd.func25, Tryd.ntmps25
      go_wp2_with fail
      go_ret
      exact ⟨rfl, below2 _ _ _⟩
    · have h3 : n < m := by omega
      go_enter Tryd.func25, Tryd.ntmps25
      go_wp2_with fail
      go_ret
      exact ⟨rfl, below2 _ _ _⟩
def chkOnr (old : Ws) (m : Nat) (root : Ws) (n : Nat) (l : Dl) : Bool := (mon old m n true l).2.2 && same (mon old m n true l).1 old && same (mon old m n true l).2.1 root
theorem checkOnr_long {f0 f1 f2 f3 r0 r1 r2 r3 : Int} {A : Option Addr} {n m c cap : Nat} (w : World) (h1 : 1 ≤ m) (hmn : m ≤ n) (hn : n ≤ 1000) (hc : 20 < c) (hc' : c ≤ 1024) :
    Calls Tryd.prog 25 #[ag [f0, f1, f2, f3], .int .i64 (m : Int), ag [r0, r1, r2, r3], .int .i64 (n : Int), .slice A c cap] w fun e w' => e = .returned (.bool false) ∧ Below w.heap.size w w' := by
  rw [ag4, ag4]
  have g0 : ¬ (1000 : Int) < (n : Int) := by omega
  have g1 : ¬ (m : Int) < 1 := by omega
  have g2 : ¬ (n : Int) < (m : Int) := by omega
  have g3 : (20 : Int) < (c : Int) := by omega
  go_enter Tryd.func25, Tryd.ntmps25
  go_wp2_with fail
  go_ret
  exact ⟨rfl, below2 _ _ _⟩
set_option maxRecDepth 100000 in
set_option maxHeartbeats 4000000 in
theorem checkOnr_yes {f0 f1 f2 f3 r0 r1 r2 r3 : Int} {A : Option Addr} {n m c cap : Nat} {l : Dl} (w : World) (h1 : 1 ≤ m) (hmn : m ≤ n) (hn : n ≤ 1000) (hl : l.length = c) (hc : c ≤ 20) (hcc : c ≤ cap) (hm : cap ≤ 9223372036854775807) (ho : Ok4 [f0, f1, f2, f3]) (hd : Dd w A l) :
    Calls Tryd.prog 25 #[ag [f0, f1, f2, f3], .int .i64 (m : Int), ag [r0, r1, r2, r3], .int .i64 (n : Int), .slice A c cap] w fun e w' => e = .returned (.bool (chkOnr [f0, f1, f2, f3] m [r0, r1, r2, r3] n l)) ∧ Below w.heap.size w w' := by
  have c1 := fun w => on_ref n m c cap A [f0, f1, f2, f3] true l w h1 hmn (by omega) hl (by omega) hcc hm ho
  have hx := mon_ok m n [f0, f1, f2, f3] true l ho hd.1
  unfold chkOnr
  obtain ⟨CR, hCR⟩ : ∃ CR, mon [f0, f1, f2, f3] m n true l = CR := ⟨_, rfl⟩
  rw [hCR] at c1 hx ⊢
  obtain ⟨x, y, okb⟩ := CR
  obtain ⟨hx, hy⟩ := hx
  obtain ⟨x0, x1, x2, x3, rfl, _⟩ := ok4 hx
  obtain ⟨y0, y1, y2, y3, rfl, _⟩ := ok4 hy
  simp only at c1
  show Calls _ _ _ _ fun e w' => e = .returned (.bool (okb && same [x0, x1, x2, x3] [f0, f1, f2, f3] && same [y0, y1, y2, y3] [r0, r1, r2, r3])) ∧ Below w.heap.size w w'
  have g0 : ¬ (1000 : Int) < (n : Int) := by omega
  have g1 : ¬ (m : Int) < 1 := by omega
  have g2 : ¬ (n : Int) < (m : Int) := by omega
  have g3 : ¬ (20 : Int) < (c : Int) := by omega
  have C1 := Lib.hid c1
  have HK := Lib.hid (((Kx.nil none w).add _ rfl (.cells #[.int .u32 f0, .int .u32 f1, .int .u32 f2, .int .u32 f3] 29 (0, 0))).add (w.heap.size + 1) (by simp) (.cells #[.int .u32 r0, .int .u32 r1, .int .u32 r2, .int .u32 r3] 29 (0, 0)))
  have HD := Lib.hid (hd.kept HK.out.be.plain)
  have q4 := eq4s
  obtain ⟨res, hres⟩ : ∃ res, (okb && same [x0, x1, x2, x3] [f0, f1, f2, f3] && same [y0, y1, y2, y3] [r0, r1, r2, r3]) = res := ⟨_, rfl⟩
  have HRES := Lib.hid hres
  rw [hres, ag4, ag4]
  obtain ⟨sb, hsb⟩ : ∃ sb, same [x0, x1, x2, x3] [f0, f1, f2, f3] = sb := ⟨_, rfl⟩
  have HSB := Lib.hid hsb
  obtain ⟨sc, hsc⟩ : ∃ sc, same [y0, y1, y2, y3] [r0, r1, r2, r3] = sc := ⟨_, rfl⟩
  have HSC := Lib.hid hsc
  clear c1 hx hy hCR hd ho hl hres hsb hsc
  go_enter Tryd.func25, Tryd.ntmps25
  go_wp2_with fail
  refine (C1.out _ HD.out).mono ?_
  rintro e w1 ⟨rfl, hb⟩
  replace HK := Lib.hid (((HK.out.after hb).add _ rfl (.cells #[.int .u32 x0, .int .u32 x1, .int .u32 x2, .int .u32 x3] 29 (0, 0))).add (w1.heap.size + 1) (by simp) (.cells #[.int .u32 y0, .int .u32 y1, .int .u32 y2, .int .u32 y3] 29 (0, 0)))
  clear hb
  obtain ⟨a0, a1, a2, a3, _⟩ := cells4 (HK.out.at 0 rfl)
  obtain ⟨b0, b1, b2, b3, _⟩ := cells4 (HK.out.at 1 rfl)
  rw [ag4, ag4]
  have S := HRES.out
  cases okb
  · have S2 : Hid (res = false) := Lib.hid (by rw [← S]; rfl)
    clear S
    go_wp2_with fail
    go_ret
    exact ⟨by rw [S2.out]; rfl, HK.out.be.plain⟩
  · cases sb
    · have S2 : Hid (res = false) := Lib.hid (by rw [← S, HSB.out]; rfl)
      have S3 : same [x0, x1, x2, x3] [f0, f1, f2, f3] = false := HSB.out
      clear S
      go_wp2_with fail
      go_ret
      exact ⟨by rw [S2.out]; rfl, HK.out.be.plain⟩
    · have S2 : Hid (res = sc) := Lib.hid (by rw [← S, HSB.out, HSC.out]; simp)
      have S3 : same [x0, x1, x2, x3] [f0, f1, f2, f3] = true := HSB.out
      have S4 : same [y0, y1, y2, y3] [r0, r1, r2, r3] = sc := HSC.out
      clear S
      go_wp2_with fail
      go_ret
      exact ⟨by rw [S2.out]; rfl, HK.out.be.plain⟩
theorem chkOn_same (old : Ws) (m : Nat) (root : Ws) (n : Nat) (l : Dl) (h1 : 1 ≤ m) (hmn : m ≤ n) : chkOn old m root n l = chkOnr old m root n l := by
  obtain ⟨h, h2⟩ := rts_on n m old true l h1 hmn
  unfold chkOn chkOnr
  have e : ((mrts m n old true l).2.2.length == 0) = (mrts m n old true l).2.2.isEmpty := by cases (mrts m n old true l).2.2 <;> simp
  rw [e]
  cases hk : (mon old m n true l).2.2
  · rw [hk] at h
    rw [← h]; simp
  · obtain ⟨a, b⟩ := h2 hk
    rw [hk] at h
    rw [← h, a, b, sameP]; simp
theorem chkOn_long (old : Ws) (m : Nat) (root : Ws) (n : Nat) (l : Dl) (h1 : 1 ≤ m) (hmn : m ≤ n) (hn : n ≤ 1000) (hl : 20 < l.length) : chkOn old m root n l = false := by
  have h := rts_left_over 10 n m old true l (by omega) h1 hmn
  unfold chkOn
  cases hk : (mrts m n old true l).2.1
  · simp
  · have := h hk
    have e : ((mrts m n old true l).2.2.length == 0) = false := by rw [beq_eq_false_iff_ne]; omega
    rw [e]; simp
end Go.Proofs.YtioiaifmcemjlaaDoor
