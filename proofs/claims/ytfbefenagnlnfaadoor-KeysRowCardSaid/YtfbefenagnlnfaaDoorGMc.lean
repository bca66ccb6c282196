/- Root, Prove, ProveOn of any list, the code's and the reference's: the contracts. Whether two lists of digests are the same: slices.Equal and the reference's Same: the contracts. Check, the code's and the reference's: the contracts; they tell the same. -/
import Derived.Test.YtfbefenagnlnfaaDoorGMb
import Derived.Test.YtfbefenagnlnfaaDoorEq
import Derived.Test.YtfbefenagnlnfaaDoorDigH
import Derived.Deep.QuietTactic
import Derived.BigQuiet
set_option linter.unusedVariables false
namespace Go.Proofs.YtfbefenagnlnfaaDoor
open Go.RowKit

theorem empty_str (S : ByteArray) (h : S.size = 0) : S = ⟨#[]⟩ := by
  apply ByteArray.ext
  exact Array.eq_empty_of_size_eq_zero h
set_option maxRecDepth 100000 in
set_option maxHeartbeats 1000000 in
theorem root_any_nil (A : Option Addr) (cap : Nat) (w : World) (ht : Tabs w) :
    Calls Tryd.prog 28 #[.slice A 0 cap] w fun e w' => e = .returned (ag (mroot [])) ∧ Below w.heap.size w w' := by
  rw [root_small (by simp)]
  have o := dof_ok0 ⟨#[]⟩ (by decide)
  have c := fun w ht0 => of_code ⟨#[]⟩ w (by decide) ht0
  show Calls _ _ _ _ fun e w' => e = .returned (ag (dof ⟨#[]⟩)) ∧ Below w.heap.size w w'
  obtain ⟨v0, v1, v2, v3, hv, _⟩ := ok4 o
  rw [hv, ag4] at c
  rw [hv, ag4]
  have C := Lib.hid c
  have HT := Lib.hid ht
  have HK := Lib.hid ((Kx.nil none w).more (.cells #[.int .u32 0, .int .u32 0, .int .u32 0, .int .u32 0] 24 (0, 0)))
  clear c ht hv o
  go_enter Tryd.func28, Tryd.ntmps28
  go_wp2_with fail
  refine (C.out _ (HT.out.oldn HK.out)).mono ?_
  rintro e w1 ⟨rfl, hb⟩
  replace HK := Lib.hid (HK.out.after hb)
  clear hb
  obtain ⟨a0, a1, a2, a3, d0, d1, d2, d3⟩ := cells4 (HK.out.at 0 rfl)
  have HR := Lib.hid (row4 (HK.out.at 0 rfl) (.int .u32 v0) (.int .u32 v1) (.int .u32 v2) (.int .u32 v3))
  have HE := Lib.hid (HK.out.put4 0 rfl (.inr (Nat.le_refl _)) (.int .u32 v0) (.int .u32 v1) (.int .u32 v2) (.int .u32 v3)).be.plain
  go_wp2_with fail
  exact bodyPost_ret (v := .agg #[.int .u32 v0, .int .u32 v1, .int .u32 v2, .int .u32 v3]) (by
    obtain ⟨k0, k1, k2, k3, _⟩ := cells4 HR.out
    simp [results, go_sem, k0, k1, k2, k3]) rfl ⟨rfl, HE.out⟩
theorem root_any {A : Option Addr} {n cap : Nat} {l : Dl} (w : World) (hl : l.length = n) (hn : n ≤ 1024) (hc : n ≤ cap) (hm : cap ≤ 9223372036854775807) (hd : Dd w A l) (ht : Tabs w) :
    Calls Tryd.prog 28 #[.slice A n cap] w fun e w' => e = .returned (ag (mroot l)) ∧ Below w.heap.size w w' := by
  by_cases h : l = []
  · subst h
    obtain rfl : n = 0 := by simpa using hl.symm
    exact root_any_nil A cap w ht
  · obtain ⟨b, off, rfl, hr⟩ := hd.2 h
    exact root_code n l b off cap w hl (by rw [← hl]; exact List.length_pos_iff.2 h) hn hc hm hr ht
set_option maxRecDepth 100000 in
set_option maxHeartbeats 1000000 in
theorem rootr_any_nil (A : Option Addr) (cap : Nat) (w : World) (ht : Tabs w) :
    Calls Tryd.prog 30 #[.slice A 0 cap] w fun e w' => e = .returned (ag (mroot [])) ∧ Below w.heap.size w w' := by
  rw [root_small (by simp)]
  have o := dof_ok0 ⟨#[]⟩ (by decide)
  have c := fun w  => of_ref ⟨#[]⟩ w (by decide)
  show Calls _ _ _ _ fun e w' => e = .returned (ag (dof ⟨#[]⟩)) ∧ Below w.heap.size w w'
  obtain ⟨v0, v1, v2, v3, hv, _⟩ := ok4 o
  rw [hv, ag4] at c
  rw [hv, ag4]
  have C := Lib.hid c
  have HT := Lib.hid ht
  have HK := Lib.hid ((Kx.nil none w).more (.cells #[.int .u32 0, .int .u32 0, .int .u32 0, .int .u32 0] 24 (0, 0)))
  clear c ht hv o
  go_enter Tryd.func30, Tryd.ntmps30
  go_wp2_with fail
  refine (C.out _ ).mono ?_
  rintro e w1 ⟨rfl, hb⟩
  replace HK := Lib.hid (HK.out.after hb)
  clear hb
  obtain ⟨a0, a1, a2, a3, d0, d1, d2, d3⟩ := cells4 (HK.out.at 0 rfl)
  have HR := Lib.hid (row4 (HK.out.at 0 rfl) (.int .u32 v0) (.int .u32 v1) (.int .u32 v2) (.int .u32 v3))
  have HE := Lib.hid (HK.out.put4 0 rfl (.inr (Nat.le_refl _)) (.int .u32 v0) (.int .u32 v1) (.int .u32 v2) (.int .u32 v3)).be.plain
  go_wp2_with fail
  exact bodyPost_ret (v := .agg #[.int .u32 v0, .int .u32 v1, .int .u32 v2, .int .u32 v3]) (by
    obtain ⟨k0, k1, k2, k3, _⟩ := cells4 HR.out
    simp [results, go_sem, k0, k1, k2, k3]) rfl ⟨rfl, HE.out⟩
theorem rootr_any {A : Option Addr} {n cap : Nat} {l : Dl} (w : World) (hl : l.length = n) (hn : n ≤ 1024) (hc : n ≤ cap) (hm : cap ≤ 9223372036854775807) (hd : Dd w A l) (ht : Tabs w) :
    Calls Tryd.prog 30 #[.slice A n cap] w fun e w' => e = .returned (ag (mroot l)) ∧ Below w.heap.size w w' := by
  by_cases h : l = []
  · subst h
    obtain rfl : n = 0 := by simpa using hl.symm
    exact rootr_any_nil A cap w ht
  · obtain ⟨b, off, rfl, hr⟩ := hd.2 h
    exact root_ref n l b off cap w hl (by rw [← hl]; exact List.length_pos_iff.2 h) hn hc hm hr ht
def PrvE (w : World) (p : Dl) (er : Int) (e : Ending) (w' : World) : Prop := ∃ v, e = .returned (.tuple #[v, .int .i64 er]) ∧ w'.ownsRow w.heap.size 24 4 v p.length (mcs p) ∧ Below w.heap.size w w'
set_option maxHeartbeats 1000000 in
theorem prove_yes {A : Option Addr} {n cap m : Nat} {l : Dl} (w : World) (hl : l.length = n) (hn : n ≤ 1024) (hc : n ≤ cap) (hm : cap ≤ 9223372036854775807) (hmn : m < n) (hd : Dd w A l) (ht : Tabs w) :
    Calls Tryd.prog 31 #[.slice A n cap, .int .i64 (m : Int)] w (PrvE w (mway l m) 0) := by
  obtain ⟨b, off, rfl, hr⟩ := hd.2 (fun e => by rw [e] at hl; simp at hl; omega)
  have C := Lib.hid (fun w => prove_code n l m b off cap w hl hmn hn hc hm)
  have HR := Lib.hid hr
  have HT := Lib.hid ht
  have i0 : ¬ (m : Int) < 0 := by omega
  have i1 : ¬ (n : Int) ≤ (m : Int) := by omega
  have i2 : (m : Int) < (n : Int) := by omega
  clear hd hr ht hl
  go_enter Tryd.func31, Tryd.ntmps31
  go_wp2_with fail
  refine (C.out _ HR.out HT.out).mono ?_
  rintro e w1 ⟨v, rfl, ho, hb⟩
  have HO := Lib.hid ho
  have HB := Lib.hid hb
  clear ho hb
  go_wp2_with fail
  go_ret2
  exact ⟨v, rfl, HO.out, HB.out⟩
set_option maxHeartbeats 1000000 in
theorem prove_no {A : Option Addr} {n cap : Nat} (i : Int) (w : World) (hn : n ≤ 9223372036854775807) (hi : i < 0 ∨ (n : Int) ≤ i) :
    Calls Tryd.prog 31 #[.slice A n cap, .int .i64 i] w (PrvE w [] 1) := by
  rcases hi with hi | hi
  · go_enter Tryd.func31, Tryd.ntmps31
    go_wp2_with fail
    go_ret2
    exact ⟨_, rfl, World.ownsRow_nil _ _ _ _, Below.refl _ _⟩
  · by_cases h0 : i < 0
    · go_enter Tryd.func31, Tryd.ntmps31
      go_wp2_with fail
      go_ret2
      exact ⟨_, rfl, World.ownsRow_nil _ _ _ _, Below.refl _ _⟩
    · go_enter Tryd.func31, Tryd.ntmps31
      go_wp2_with fail
      go_ret2
      exact ⟨_, rfl, World.ownsRow_nil _ _ _ _, Below.refl _ _⟩
set_option maxHeartbeats 1000000 in
theorem prover_yes {A : Option Addr} {n cap m : Nat} {l : Dl} (w : World) (hl : l.length = n) (hn : n ≤ 1024) (hc : n ≤ cap) (hm : cap ≤ 9223372036854775807) (hmn : m < n) (hd : Dd w A l) (ht : Tabs w) :
    Calls Tryd.prog 33 #[.slice A n cap, .int .i64 (m : Int)] w (PrvE w (mway l m) 0) := by
  obtain ⟨b, off, rfl, hr⟩ := hd.2 (fun e => by rw [e] at hl; simp at hl; omega)
  have C := Lib.hid (fun w => way_ref n l m b off cap w hl hmn hn hc hm)
  have HR := Lib.hid hr
  have HT := Lib.hid ht
  have i0 : ¬ (m : Int) < 0 := by omega
  have i1 : ¬ (n : Int) ≤ (m : Int) := by omega
  have i2 : (m : Int) < (n : Int) := by omega
  clear hd hr ht hl
  go_enter Tryd.func33, Tryd.ntmps33
  go_wp2_with fail
  refine (C.out _ HR.out HT.out).mono ?_
  rintro e w1 ⟨v, rfl, ho, hb⟩
  have HO := Lib.hid ho
  have HB := Lib.hid hb
  clear ho hb
  go_wp2_with fail
  go_ret2
  exact ⟨v, rfl, HO.out, HB.out⟩
set_option maxHeartbeats 1000000 in
theorem prover_no {A : Option Addr} {n cap : Nat} (i : Int) (w : World) (hn : n ≤ 9223372036854775807) (hi : i < 0 ∨ (n : Int) ≤ i) :
    Calls Tryd.prog 33 #[.slice A n cap, .int .i64 i] w (PrvE w [] 1) := by
  rcases hi with hi | hi
  · go_enter Tryd.func33, Tryd.ntmps33
    go_wp2_with fail
    go_ret2
    exact ⟨_, rfl, World.ownsRow_nil _ _ _ _, Below.refl _ _⟩
  · by_cases h0 : i < 0
    · go_enter Tryd.func33, Tryd.ntmps33
      go_wp2_with fail
      go_ret2
      exact ⟨_, rfl, World.ownsRow_nil _ _ _ _, Below.refl _ _⟩
    · go_enter Tryd.func33, Tryd.ntmps33
      go_wp2_with fail
      go_ret2
      exact ⟨_, rfl, World.ownsRow_nil _ _ _ _, Below.refl _ _⟩
end Go.Proofs.YtfbefenagnlnfaaDoor
set_option linter.unusedVariables false
namespace Go.Proofs.YtfbefenagnlnfaaDoor
open Go.RowKit

/-- Whether two lists of digests are the same. -/
def sameL (l m : Dl) : Bool := decide (l = m)
theorem sameL_yes (l : Dl) : sameL l l = true := by simp [sameL]
theorem sameL_no {l m : Dl} (h : ¬ l = m) : sameL l m = false := by simp [sameL, h]
end Go.Proofs.YtfbefenagnlnfaaDoor
set_option linter.unusedVariables false
namespace Go.Proofs.YtfbefenagnlnfaaDoor
open Go.RowKit

theorem same_dec (l m : Ws) : same l m = decide (l = m) := rfl
theorem TabsB.up {B B' : Nat} {w : World} (h : TabsB B w) (hb : B ≤ B') : TabsB B' w where
  toTabs := h.toTabs
  lt := Nat.lt_of_lt_of_le h.lt hb
  lk := Nat.lt_of_lt_of_le h.lk hb
set_option maxHeartbeats 1000000 in
theorem check_no {f0 f1 f2 f3 r0 r1 r2 r3 n i : Int} (A : Option Addr) (c cap : Nat) (w : World) (h : 1000 < n ∨ i < 0 ∨ n ≤ i) :
    Calls Tryd.prog 37 #[ag [r0, r1, r2, r3], .int .i64 n, .int .i64 i, ag [f0, f1, f2, f3], .slice A c cap] w fun e w' => e = .returned (.bool false) ∧ Below w.heap.size w w' := by
  rw [ag4, ag4]
  by_cases h1 : 1000 < n
  · go_enter Tryd.func37, Tryd.ntmps37
    go_wp2_with fail
    go_ret
    exact ⟨rfl, below2 _ _ _⟩
  · by_cases h2 : i < 0
    · go_enter Tryd.func37, Tryd.ntmps37
      go_wp2_with fail
      go_ret
      exact ⟨rfl, below2 _ _ _⟩
    · have h3 : n ≤ i := by omega
      go_enter Tryd.func37, Tryd.ntmps37
      go_wp2_with fail
      go_ret
      exact ⟨rfl, below2 _ _ _⟩
def chk (root : Ws) (n i : Nat) (leaf : Ws) (l : Dl) : Bool := (mcr n i leaf l).2.1 && ((mcr n i leaf l).2.2.length == 0) && same (mcr n i leaf l).1 root
set_option maxRecDepth 100000 in
set_option maxHeartbeats 4000000 in
theorem check_yes {f0 f1 f2 f3 r0 r1 r2 r3 : Int} {A : Option Addr} {n i c cap : Nat} {l : Dl} (w : World) (hi : i < n) (hn : n ≤ 1000) (hl : l.length = c) (hc : c ≤ 1024) (hcc : c ≤ cap) (hm : cap ≤ 9223372036854775807) (ho : Ok4 [f0, f1, f2, f3]) (hd : Dd w A l) (ht : Tabs w) :
    Calls Tryd.prog 37 #[ag [r0, r1, r2, r3], .int .i64 (n : Int), .int .i64 (i : Int), ag [f0, f1, f2, f3], .slice A c cap] w fun e w' => e = .returned (.bool (chk [r0, r1, r2, r3] n i [f0, f1, f2, f3] l)) ∧ Below w.heap.size w w' := by
  have c1 := fun w p => rest_code n i p c cap A [f0, f1, f2, f3] l w hi (by omega) hl hc hcc hm ho hd.1
  have hx := mcr_ok n i [f0, f1, f2, f3] l ho hd.1
  unfold chk
  obtain ⟨CR, hCR⟩ : ∃ CR, mcr n i [f0, f1, f2, f3] l = CR := ⟨_, rfl⟩
  rw [hCR] at c1 hx ⊢
  obtain ⟨x, okb, left⟩ := CR
  obtain ⟨x0, x1, x2, x3, rfl, _⟩ := ok4 hx
  simp only at c1
  show Calls _ _ _ _ fun e w' => e = .returned (.bool (okb && (left.length == 0) && same [x0, x1, x2, x3] [r0, r1, r2, r3])) ∧ Below w.heap.size w w'
  obtain ⟨q, hq⟩ : ∃ q, left.length = q := ⟨_, rfl⟩
  rw [hq] at c1 ⊢
  have g0 : ¬ (1000 : Int) < (n : Int) := by omega
  have g1 : ¬ (i : Int) < 0 := by omega
  have g2 : ¬ (n : Int) ≤ (i : Int) := by omega
  have C1 := Lib.hid c1
  have HD := Lib.hid hd
  have HT := Lib.hid ht.at
  have HK := Lib.hid ((((Kx.nil none w).add _ rfl (.cells #[.int .u32 r0, .int .u32 r1, .int .u32 r2, .int .u32 r3] 24 (0, 0))).add (w.heap.size + 1) (by simp) (.cells #[.int .u32 f0, .int .u32 f1, .int .u32 f2, .int .u32 f3] 24 (0, 0))).add (w.heap.size + 1 + 1) (by simp) (restO (.slice A c cap)))
  have HDQ : Hid (Dq (((w.alloc (.cells #[.int .u32 r0, .int .u32 r1, .int .u32 r2, .int .u32 r3] 24 (0, 0))).alloc (.cells #[.int .u32 f0, .int .u32 f1, .int .u32 f2, .int .u32 f3] 24 (0, 0))).alloc (restO (.slice A c cap))) (w.heap.size + 1 + 1) A l) := Lib.hid (fun hl0 => by
    obtain ⟨b, off, e, r⟩ := HD.out.2 hl0
    exact ⟨b, off, e, (by have := r.lt; omega), r.oldn HK.out⟩)
  have HTB := Lib.hid ((HT.out.below HK.out.be.plain).up (show w.heap.size ≤ w.heap.size + 1 + 1 by omega))
  have q4 := eq4s
  have HQ2 := Lib.hid (show w.heap.size ≤ w.heap.size + 1 + 1 by omega)
  obtain ⟨res, hres⟩ : ∃ res, (okb && (q == 0) && same [x0, x1, x2, x3] [r0, r1, r2, r3]) = res := ⟨_, rfl⟩
  have HRES := Lib.hid hres
  rw [hres, ag4, ag4]
  obtain ⟨sb, hsb⟩ : ∃ sb, same [x0, x1, x2, x3] [r0, r1, r2, r3] = sb := ⟨_, rfl⟩
  have HSB := Lib.hid hsb
  clear c1 hx hCR hq hd ht ho hl hres hsb hi
  go_enter Tryd.func37, Tryd.ntmps37
  go_wp2_with fail
  refine (C1.out _ _ HDQ.out (HK.out.at 2 rfl) HTB.out).mono ?_
  rintro e w1 ⟨rfl, hb, hpp⟩
  replace HK := Lib.hid ((HK.out.afterq 2 rfl (.inr HQ2.out) hb hpp).add _ rfl (.cells #[.int .u32 x0, .int .u32 x1, .int .u32 x2, .int .u32 x3] 24 (0, 0)))
  clear hb hpp
  obtain ⟨a0, a1, a2, a3, _⟩ := cells4 (HK.out.at 0 rfl)
  obtain ⟨p0, p1⟩ := cells1 (HK.out.at 2 rfl)
  have i0 : ((0 : Nat) : Int) = 0 := rfl
  rw [ag4]
  have S := HRES.out
  cases okb
  · have S2 : Hid (res = false) := Lib.hid (by rw [← S]; rfl)
    clear S
    go_wp2_with fail
    go_ret
    exact ⟨by rw [S2.out]; rfl, HK.out.be.plain⟩
  · by_cases h0 : q = 0
    · subst h0
      have S2 : Hid (res = sb) := Lib.hid (by rw [← S, HSB.out]; simp)
      have S3 : same [x0, x1, x2, x3] [r0, r1, r2, r3] = sb := HSB.out
      clear S
      go_wp2_with fail
      go_ret
      exact ⟨by rw [S2.out]; rfl, HK.out.be.plain⟩
    · have j0 : ((q : Int) == 0) = false := by rw [beq_eq_false_iff_ne]; omega
      have j1 : (q == 0) = false := by rw [beq_eq_false_iff_ne]; omega
      have S2 : Hid (res = false) := Lib.hid (by rw [← S, j1]; simp)
      clear S
      go_wp2_with fail
      go_ret
      exact ⟨by rw [S2.out]; rfl, HK.out.be.plain⟩
set_option maxHeartbeats 1000000 in
theorem checkr_no {f0 f1 f2 f3 r0 r1 r2 r3 n i : Int} (A : Option Addr) (c cap : Nat) (w : World) (h : 1000 < n ∨ i < 0 ∨ n ≤ i) :
    Calls Tryd.prog 38 #[ag [r0, r1, r2, r3], .int .i64 n, .int .i64 i, ag [f0, f1, f2, f3], .slice A c cap] w fun e w' => e = .returned (.bool false) ∧ Below w.heap.size w w' := by
  rw [ag4, ag4]
  by_cases h1 : 1000 < n
  · go_enter Tryd.func38, Tryd.ntmps38
    go_wp2_with fail
    go_ret
    exact ⟨rfl, below2 _ _ _⟩
  · by_cases h2 : i < 0
    · go_enter Tryd.func38, Tryd.ntmps38
      go_wp2_with fail
      go_ret
      exact ⟨rfl, below2 _ _ _⟩
    · have h3 : n ≤ i := by omega
      go_enter Tryd.func38, Tryd.ntmps38
      go_wp2_with fail
      go_ret
      exact ⟨rfl, below2 _ _ _⟩
def chkr (root : Ws) (n i : Nat) (leaf : Ws) (l : Dl) : Bool := (mup n i leaf l).2 && same (mup n i leaf l).1 root
theorem checkr_long {f0 f1 f2 f3 r0 r1 r2 r3 : Int} {A : Option Addr} {n i c cap : Nat} (w : World) (hi : i < n) (hn : n ≤ 1000) (hc : 20 < c) (hc' : c ≤ 1024) :
    Calls Tryd.prog 38 #[ag [r0, r1, r2, r3], .int .i64 (n : Int), .int .i64 (i : Int), ag [f0, f1, f2, f3], .slice A c cap] w fun e w' => e = .returned (.bool false) ∧ Below w.heap.size w w' := by
  rw [ag4, ag4]
  have g0 : ¬ (1000 : Int) < (n : Int) := by omega
  have g1 : ¬ (i : Int) < 0 := by omega
  have g2 : ¬ (n : Int) ≤ (i : Int) := by omega
  have g3 : (20 : Int) < (c : Int) := by omega
  go_enter Tryd.func38, Tryd.ntmps38
  go_wp2_with fail
  go_ret
  exact ⟨rfl, below2 _ _ _⟩
set_option maxRecDepth 100000 in
set_option maxHeartbeats 4000000 in
theorem checkr_yes {f0 f1 f2 f3 r0 r1 r2 r3 : Int} {A : Option Addr} {n i c cap : Nat} {l : Dl} (w : World) (hi : i < n) (hn : n ≤ 1000) (hl : l.length = c) (hc : c ≤ 20) (hcc : c ≤ cap) (hm : cap ≤ 9223372036854775807) (ho : Ok4 [f0, f1, f2, f3]) (hd : Dd w A l) :
    Calls Tryd.prog 38 #[ag [r0, r1, r2, r3], .int .i64 (n : Int), .int .i64 (i : Int), ag [f0, f1, f2, f3], .slice A c cap] w fun e w' => e = .returned (.bool (chkr [r0, r1, r2, r3] n i [f0, f1, f2, f3] l)) ∧ Below w.heap.size w w' := by
  have c1 := fun w => up_ref n i c cap A [f0, f1, f2, f3] l w hi (by omega) hl (by omega) hcc hm ho
  have hx := mup_ok n i [f0, f1, f2, f3] l ho hd.1
  unfold chkr
  obtain ⟨CR, hCR⟩ : ∃ CR, mup n i [f0, f1, f2, f3] l = CR := ⟨_, rfl⟩
  rw [hCR] at c1 hx ⊢
  obtain ⟨x, okb⟩ := CR
  obtain ⟨x0, x1, x2, x3, rfl, _⟩ := ok4 hx
  simp only at c1
  show Calls _ _ _ _ fun e w' => e = .returned (.bool (okb && same [x0, x1, x2, x3] [r0, r1, r2, r3])) ∧ Below w.heap.size w w'
  have g0 : ¬ (1000 : Int) < (n : Int) := by omega
  have g1 : ¬ (i : Int) < 0 := by omega
  have g2 : ¬ (n : Int) ≤ (i : Int) := by omega
  have g3 : ¬ (20 : Int) < (c : Int) := by omega
  have C1 := Lib.hid c1
  have HK := Lib.hid (((Kx.nil none w).add _ rfl (.cells #[.int .u32 r0, .int .u32 r1, .int .u32 r2, .int .u32 r3] 24 (0, 0))).add (w.heap.size + 1) (by simp) (.cells #[.int .u32 f0, .int .u32 f1, .int .u32 f2, .int .u32 f3] 24 (0, 0)))
  have HD := Lib.hid (hd.kept HK.out.be.plain)
  have q4 := eq4s
  obtain ⟨res, hres⟩ : ∃ res, (okb && same [x0, x1, x2, x3] [r0, r1, r2, r3]) = res := ⟨_, rfl⟩
  have HRES := Lib.hid hres
  rw [hres, ag4, ag4]
  obtain ⟨sb, hsb⟩ : ∃ sb, same [x0, x1, x2, x3] [r0, r1, r2, r3] = sb := ⟨_, rfl⟩
  have HSB := Lib.hid hsb
  clear c1 hx hCR hd ho hl hres hsb hi
  go_enter Tryd.func38, Tryd.ntmps38
  go_wp2_with fail
  refine (C1.out _ HD.out).mono ?_
  rintro e w1 ⟨rfl, hb⟩
  replace HK := Lib.hid ((HK.out.after hb).add _ rfl (.cells #[.int .u32 x0, .int .u32 x1, .int .u32 x2, .int .u32 x3] 24 (0, 0)))
  clear hb
  obtain ⟨a0, a1, a2, a3, _⟩ := cells4 (HK.out.at 0 rfl)
  rw [ag4]
  have S := HRES.out
  cases okb
  · have S2 : Hid (res = false) := Lib.hid (by rw [← S]; rfl)
    clear S
    go_wp2_with fail
    go_ret
    exact ⟨by rw [S2.out]; rfl, HK.out.be.plain⟩
  · have S2 : Hid (res = sb) := Lib.hid (by rw [← S, HSB.out]; simp)
    have S3 : same [x0, x1, x2, x3] [r0, r1, r2, r3] = sb := HSB.out
    clear S
    go_wp2_with fail
    go_ret
    exact ⟨by rw [S2.out]; rfl, HK.out.be.plain⟩
theorem chk_same (root : Ws) (n i : Nat) (leaf : Ws) (l : Dl) : chk root n i leaf l = chkr root n i leaf l := by
  obtain ⟨h1, h2⟩ := cr_up n i leaf l
  unfold chk chkr
  have e : ((mcr n i leaf l).2.2.length == 0) = (mcr n i leaf l).2.2.isEmpty := by cases (mcr n i leaf l).2.2 <;> simp
  rw [e, h1]
  cases hk : (mcr n i leaf l).2.1
  · simp
  · rw [h2 hk]
theorem chk_long (root : Ws) (n i : Nat) (leaf : Ws) (l : Dl) (hn : n ≤ 1000) (hl : 20 < l.length) : chk root n i leaf l = false := by
  have h := cr_left_over 10 n i leaf l (by omega)
  unfold chk
  cases hk : (mcr n i leaf l).2.1
  · simp
  · have := h hk
    have e : ((mcr n i leaf l).2.2.length == 0) = false := by rw [beq_eq_false_iff_ne]; omega
    rw [e]; simp
end Go.Proofs.YtfbefenagnlnfaaDoor
