/- Root, Prove, ProveOn of any list, the code's and the reference's: the contracts. -/
import Derived.Test.YtcjclbhkheogpaaDoorMerE
import Derived.Test.YtcjclbhkheogpaaDoorEq
import Derived.Test.YtcjclbhkheogpaaDoorDigH
set_option linter.unusedVariables false
namespace Go.Proofs.YtcjclbhkheogpaaDoor
open Go.RowKit

theorem empty_str (S : ByteArray) (h : S.size = 0) : S = ⟨#[]⟩ := by
  apply ByteArray.ext
  exact Array.eq_empty_of_size_eq_zero h
set_option maxRecDepth 100000 in
set_option maxHeartbeats 1000000 in
theorem root_any_nil (A : Option Addr) (cap : Nat) (w : World) (ht : Tabs w) :
    Calls Tryd.prog 9 #[.slice A 0 cap] w fun e w' => e = .returned (ag (mroot [])) ∧ Below w.heap.size w w' := by
  rw [root_small (by simp)]
  have o := dof_ok0 ⟨#[]⟩ (by decide)
  have c := fun w ht0 => of_code ⟨#[]⟩ w (by decide) ht0
  show Calls _ _ _ _ fun e w' => e = .returned (ag (dof ⟨#[]⟩)) ∧ Below w.heap.size w w'
  obtain ⟨v0, v1, v2, v3, hv, _⟩ := ok4 o
  rw [hv, ag4] at c
  rw [hv, ag4]
  have C := Lib.hid c
  have HT := Lib.hid ht
  have HK := Lib.hid ((Kx.nil none w).more (.cells #[.int .u32 0, .int .u32 0, .int .u32 0, .int .u32 0] 26 (0, 0)))
  clear c ht hv o
  go_enter Tryd.func9, Tryd.ntmps9
  go_wp2_with fail
  refine (C.out _ (HT.out.oldn HK.out)).mono ?_
  rintro e w1 ⟨rfl, hb⟩
  replace HK := Lib.hid (HK.out.after hb)
  clear hb
  obtain ⟨a0, a1, a2, a3, d0, d1, d2, d3⟩ := cells4 (HK.out.at 0 rfl)
  have HR := Lib.hid (row4 (HK.out.at 0 rfl) (.int .u32 v0) (.int .u32 v1) (.int .u32 v2) (.int .u32 v3))
  have HE := Lib.hid (HK.out.put4 0 rfl (.inr (Nat.le_refl _)) (.int .u32 v0) (.int .u32 v1) (.int .u32 v2) (.int .u32 v3)).be.plain
  go_wp2_with fail
  exact bodyPost_ret (v := .agg #[.int .u32 v0, .int .u32 v1, .int .u32 v2, .int .u32 v3]) (by
    obtain ⟨k0, k1, k2, k3, _⟩ := cells4 HR.out
    simp [results, go_sem, k0, k1, k2, k3]) rfl ⟨rfl, HE.out⟩
theorem root_any {A : Option Addr} {n cap : Nat} {l : Dl} (w : World) (hl : l.length = n) (hn : n ≤ 1024) (hc : n ≤ cap) (hm : cap ≤ 9223372036854775807) (hd : Dd w A l) (ht : Tabs w) :
    Calls Tryd.prog 9 #[.slice A n cap] w fun e w' => e = .returned (ag (mroot l)) ∧ Below w.heap.size w w' := by
  by_cases h : l = []
  · subst h
    obtain rfl : n = 0 := by simpa using hl.symm
    exact root_any_nil A cap w ht
  · obtain ⟨b, off, rfl, hr⟩ := hd.2 h
    exact root_code n l b off cap w hl (by rw [← hl]; exact List.length_pos_iff.2 h) hn hc hm hr ht
set_option maxRecDepth 100000 in
set_option maxHeartbeats 1000000 in
theorem rootr_any_nil (A : Option Addr) (cap : Nat) (w : World) (ht : Tabs w) :
    Calls Tryd.prog 18 #[.slice A 0 cap] w fun e w' => e = .returned (ag (mroot [])) ∧ Below w.heap.size w w' := by
  rw [root_small (by simp)]
  have o := dof_ok0 ⟨#[]⟩ (by decide)
  have c := fun w  => of_ref ⟨#[]⟩ w (by decide)
  show Calls _ _ _ _ fun e w' => e = .returned (ag (dof ⟨#[]⟩)) ∧ Below w.heap.size w w'
  obtain ⟨v0, v1, v2, v3, hv, _⟩ := ok4 o
  rw [hv, ag4] at c
  rw [hv, ag4]
  have C := Lib.hid c
  have HT := Lib.hid ht
  have HK := Lib.hid ((Kx.nil none w).more (.cells #[.int .u32 0, .int .u32 0, .int .u32 0, .int .u32 0] 26 (0, 0)))
  clear c ht hv o
  go_enter Tryd.func18, Tryd.ntmps18
  go_wp2_with fail
  refine (C.out _ ).mono ?_
  rintro e w1 ⟨rfl, hb⟩
  replace HK := Lib.hid (HK.out.after hb)
  clear hb
  obtain ⟨a0, a1, a2, a3, d0, d1, d2, d3⟩ := cells4 (HK.out.at 0 rfl)
  have HR := Lib.hid (row4 (HK.out.at 0 rfl) (.int .u32 v0) (.int .u32 v1) (.int .u32 v2) (.int .u32 v3))
  have HE := Lib.hid (HK.out.put4 0 rfl (.inr (Nat.le_refl _)) (.int .u32 v0) (.int .u32 v1) (.int .u32 v2) (.int .u32 v3)).be.plain
  go_wp2_with fail
  exact bodyPost_ret (v := .agg #[.int .u32 v0, .int .u32 v1, .int .u32 v2, .int .u32 v3]) (by
    obtain ⟨k0, k1, k2, k3, _⟩ := cells4 HR.out
    simp [results, go_sem, k0, k1, k2, k3]) rfl ⟨rfl, HE.out⟩
theorem rootr_any {A : Option Addr} {n cap : Nat} {l : Dl} (w : World) (hl : l.length = n) (hn : n ≤ 1024) (hc : n ≤ cap) (hm : cap ≤ 9223372036854775807) (hd : Dd w A l) (ht : Tabs w) :
    Calls Tryd.prog 18 #[.slice A n cap] w fun e w' => e = .returned (ag (mroot l)) ∧ Below w.heap.size w w' := by
  by_cases h : l = []
  · subst h
    obtain rfl : n = 0 := by simpa using hl.symm
    exact rootr_any_nil A cap w ht
  · obtain ⟨b, off, rfl, hr⟩ := hd.2 h
    exact root_ref n l b off cap w hl (by rw [← hl]; exact List.length_pos_iff.2 h) hn hc hm hr ht
def PrvE (w : World) (p : Dl) (er : Int) (e : Ending) (w' : World) : Prop := ∃ v, e = .returned (.tuple #[v, .int .i64 er]) ∧ w'.ownsRow w.heap.size 26 4 v p.length (mcs p) ∧ Below w.heap.size w w'
set_option maxHeartbeats 1000000 in
theorem prove_yes {A : Option Addr} {n cap m : Nat} {l : Dl} (w : World) (hl : l.length = n) (hn : n ≤ 1024) (hc : n ≤ cap) (hm : cap ≤ 9223372036854775807) (hmn : m < n) (hd : Dd w A l) (ht : Tabs w) :
    Calls Tryd.prog 11 #[.slice A n cap, .int .i64 (m : Int)] w (PrvE w (mway l m) 0) := by
  obtain ⟨b, off, rfl, hr⟩ := hd.2 (fun e => by rw [e] at hl; simp at hl; omega)
  have C := Lib.hid (fun w => prove_code n l m b off cap w hl hmn hn hc hm)
  have HR := Lib.hid hr
  have HT := Lib.hid ht
  have i0 : ¬ (m : Int) < 0 := by omega
  have i1 : ¬ (n : Int) ≤ (m : Int) := by omega
  have i2 : (m : Int) < (n : Int) := by omega
  clear hd hr ht hl
  go_enter Tryd.func11, Tryd.ntmps11
  go_wp2_with fail
  refine (C.out _ HR.out HT.out).mono ?_
  rintro e w1 ⟨v, rfl, ho, hb⟩
  have HO := Lib.hid ho
  have HB := Lib.hid hb
  clear ho hb
  go_wp2_with fail
  go_ret2
  exact ⟨v, rfl, HO.out, HB.out⟩
set_option maxHeartbeats 1000000 in
theorem prove_no {A : Option Addr} {n cap : Nat} (i : Int) (w : World) (hn : n ≤ 9223372036854775807) (hi : i < 0 ∨ (n : Int) ≤ i) :
    Calls Tryd.prog 11 #[.slice A n cap, .int .i64 i] w (PrvE w [] 1) := by
  rcases hi with hi | hi
  · go_enter Tryd.func11, Tryd.ntmps11
    go_wp2_with fail
    go_ret2
    exact ⟨_, rfl, World.ownsRow_nil _ _ _ _, Below.refl _ _⟩
  · by_cases h0 : i < 0
    · go_enter Tryd.func11, Tryd.ntmps11
      go_wp2_with fail
      go_ret2
      exact ⟨_, rfl, World.ownsRow_nil _ _ _ _, Below.refl _ _⟩
    · go_enter Tryd.func11, Tryd.ntmps11
      go_wp2_with fail
      go_ret2
      exact ⟨_, rfl, World.ownsRow_nil _ _ _ _, Below.refl _ _⟩
set_option maxHeartbeats 1000000 in
theorem proveOn_yes {A : Option Addr} {n cap m : Nat} {l : Dl} (w : World) (hl : l.length = n) (hn : n ≤ 1024) (hc : n ≤ cap) (hm : cap ≤ 9223372036854775807) (h1 : 1 ≤ m) (hmn : m ≤ n) (hd : Dd w A l) (ht : Tabs w) :
    Calls Tryd.prog 15 #[.slice A n cap, .int .i64 (m : Int)] w (PrvE w (mgoes l m true) 0) := by
  obtain ⟨b, off, rfl, hr⟩ := hd.2 (fun e => by rw [e] at hl; simp at hl; omega)
  have C := Lib.hid (fun w => proveOn_code n l m true b off cap w hl h1 hmn hn hc hm)
  have HR := Lib.hid hr
  have HT := Lib.hid ht
  have i0 : ¬ (m : Int) < 0 := by omega
  have i1 : ¬ (m : Int) < 1 := by omega
  have i2 : ¬ (n : Int) < (m : Int) := by omega
  clear hd hr ht hl
  go_enter Tryd.func15, Tryd.ntmps15
  go_wp2_with fail
  refine (C.out _ HR.out HT.out).mono ?_
  rintro e w1 ⟨v, rfl, ho, hb⟩
  have HO := Lib.hid ho
  have HB := Lib.hid hb
  clear ho hb
  go_wp2_with fail
  go_ret2
  exact ⟨v, rfl, HO.out, HB.out⟩
set_option maxHeartbeats 1000000 in
theorem proveOn_no {A : Option Addr} {n cap : Nat} (i : Int) (w : World) (hn : n ≤ 9223372036854775807) (hi : i < 1 ∨ (n : Int) < i) :
    Calls Tryd.prog 15 #[.slice A n cap, .int .i64 i] w (PrvE w [] 1) := by
  rcases hi with hi | hi
  · go_enter Tryd.func15, Tryd.ntmps15
    go_wp2_with fail
    go_ret2
    exact ⟨_, rfl, World.ownsRow_nil _ _ _ _, Below.refl _ _⟩
  · by_cases h0 : i < 1
    · go_enter Tryd.func15, Tryd.ntmps15
      go_wp2_with fail
      go_ret2
      exact ⟨_, rfl, World.ownsRow_nil _ _ _ _, Below.refl _ _⟩
    · go_enter Tryd.func15, Tryd.ntmps15
      go_wp2_with fail
      go_ret2
      exact ⟨_, rfl, World.ownsRow_nil _ _ _ _, Below.refl _ _⟩
end Go.Proofs.YtcjclbhkheogpaaDoor
