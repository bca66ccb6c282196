/- The reference's up: the contract. -/
import Derived.Test.YtcjclbhkheogpaaDoorMerF
set_option linter.unusedVariables false
namespace Go.Proofs.YtcjclbhkheogpaaDoor
open Go.RowKit

theorem mup_ok : ∀ (n i : Nat) (leaf : Ws) (l : Dl), Ok4 leaf → Oks l → Ok4 (mup n i leaf l).1 := by
  intro n
  induction n using Nat.strongRecOn with
  | ind n ih =>
    intro i leaf l h hl
    by_cases h1 : n ≤ 1
    · rw [up_one h1]; exact h
    · have h2 : 2 ≤ n := by omega
      have k1 := hf_lt h2
      have k2 := hf_pos n
      by_cases hp : l = []
      · subst hp
        rw [up_none h2]; exact h
      · by_cases hi : i < hf n
        · rw [up_left h2 hp hi]
          exact pair_ok0 (ih (hf n) k1 _ _ _ h hl.dropLast) (hl.last hp)
        · rw [up_right h2 hp hi]
          exact pair_ok0 (hl.last hp) (ih (n - hf n) (by omega) _ _ _ h hl.dropLast)
def UpE (w : World) (x : Ws) (ok : Bool) (e : Ending) (w' : World) : Prop := e = .returned (.tuple #[ag x, .bool ok]) ∧ Below w.heap.size w w'
def UpAt (n : Nat) : Prop := ∀ (i c cap : Nat) (A : Option Addr) (leaf : Ws) (l : Dl) (w : World), i < n → n ≤ 1024 → l.length = c → c ≤ 1024 → c ≤ cap → cap ≤ 9223372036854775807 → Ok4 leaf → Dd w A l →
    Calls Tryd.prog 26 #[.int .i64 (n : Int), .int .i64 (i : Int), ag leaf, .slice A c cap] w (UpE w (mup n i leaf l).1 (mup n i leaf l).2)
set_option maxRecDepth 100000 in
set_option maxHeartbeats 8000000 in
theorem up_ref : ∀ n, UpAt n := by
  intro n
  induction n using Nat.strongRecOn with
  | ind n ih =>
    intro i c cap A leaf l w hi hn hl hc hcc hm ho hd
    have hol := hd.1
    obtain ⟨f0, f1, f2, f3, hf, _⟩ := ok4 ho
    subst hf
    have hemp : l.isEmpty = (c == 0) := by
      rw [← hl]
      cases l <;> simp
    by_cases h1 : n = 1
    · subst h1
      rw [up_one (by omega), hemp]
      obtain ⟨bb, hbb⟩ : ∃ bb, (c == 0) = bb := ⟨_, rfl⟩
      have i1 : ((c : Int) == 0) = bb := by
        rw [← hbb, Bool.eq_iff_iff, beq_iff_eq, beq_iff_eq]; omega
      rw [hbb]
      clear ih hd hol hl ho hemp
      show Calls _ _ #[_, _, ag [f0, f1, f2, f3], _] w (UpE w [f0, f1, f2, f3] bb)
      rw [ag4]
      go_enter Tryd.func26, Tryd.ntmps26
      go_wp2_with fail
      exact bodyPost_ret (v := .tuple #[.agg #[.int .u32 f0, .int .u32 f1, .int .u32 f2, .int .u32 f3], .bool bb]) (by simp [results, go_sem]) rfl ⟨rfl, below2 _ _ _⟩
    · have h2 : 2 ≤ n := by omega
      have k1 := hf_lt h2
      have k2 := hf_pos n
      have i3 : ((n : Int) == 1) = false := by rw [beq_eq_false_iff_ne]; omega
      have i4 : (n == 1) = false := by rw [beq_eq_false_iff_ne]; omega
      have hmok := mup_ok n i [f0, f1, f2, f3] l ho hol
      by_cases hl0 : l = []
      · subst hl0
        have hc0 : c = 0 := by simpa using hl.symm
        subst hc0
        rw [up_none h2]
        clear hl ih hd hol hmok ho hemp
        show Calls _ _ #[_, _, ag [f0, f1, f2, f3], _] w (UpE w [f0, f1, f2, f3] false)
        rw [ag4]
        go_enter Tryd.func26, Tryd.ntmps26
        go_wp2_with fail
        exact bodyPost_ret (v := .tuple #[.agg #[.int .u32 f0, .int .u32 f1, .int .u32 f2, .int .u32 f3], .bool false]) (by simp [results, go_sem]) rfl ⟨rfl, below2 _ _ _⟩
      · have hl1 : 1 ≤ c := by
          rw [← hl]
          exact List.length_pos_iff.2 hl0
        have hlo := hol.last hl0
        have hlo' := hlo
        obtain ⟨v0, v1, v2, v3, hlast, _⟩ := ok4 hlo'
        clear hlo' hemp
        obtain ⟨b, off, rfl, hr⟩ := hd.2 hl0
        have hj : l[c - 1]? = some [v0, v1, v2, v3] := by
          rw [List.getLastD_eq_getLast?, List.getLast?_eq_getElem?, hl] at hlast
          rw [List.getElem?_eq_getElem (by omega)] at hlast ⊢
          rw [← hlast]; rfl
        obtain ⟨g0, g1, g2, g3⟩ := hr.four hj
        have hbw := hr.lt
        have hnb : w.heap.size ≠ b := by omega
        have hnb2 : w.heap.size + 1 ≠ b := by omega
        have HR := Lib.hid hr
        clear hj
        have C := fun w => half_ref n w h2 (by omega)
        have u0 : 0 ≤ (c : Int) - 1 := by omega
        have u1 : (c : Int) - 1 < (c : Int) := by omega
        have u2 : ((c : Int) - 1).toNat = c - 1 := by omega
        have u3 : c - 1 ≤ cap := by omega
        have u4 : ((c : Int) == 0) = false := by rw [beq_eq_false_iff_ne]; omega
        have u5 : (c == 0) = false := by rw [beq_eq_false_iff_ne]; omega
        by_cases hik : i < hf n
        · skip
          have wl := up_left (leaf := [f0, f1, f2, f3]) h2 hl0 hik
          rw [wl] at hmok ⊢
          have hx := mup_ok (hf n) i [f0, f1, f2, f3] l.dropLast ho hol.dropLast
          have c3 := fun w => ih (hf n) k1 i (c - 1) cap (some ⟨b, off, none⟩) [f0, f1, f2, f3] l.dropLast w hik (by omega) (by rw [List.length_dropLast, hl]) (by omega) (by omega) hm ho
          obtain ⟨CR, hCR⟩ : ∃ CR, mup (hf n) i [f0, f1, f2, f3] l.dropLast = CR := ⟨_, rfl⟩
          rw [hCR] at hx c3 hmok ⊢
          obtain ⟨x, okb⟩ := CR
          have c4 := fun w => pair_ref x (l.getLastD []) w hx hlo
          obtain ⟨x0, x1, x2, x3, rfl, _⟩ := ok4 hx
          rw [hlast] at c4 hmok ⊢
          simp only at hmok
          obtain ⟨z0, z1, z2, z3, hz, _⟩ := ok4 hmok
          show Calls _ _ #[_, _, ag [f0, f1, f2, f3], _] w (UpE w (pair [x0, x1, x2, x3] [v0, v1, v2, v3]) okb)
          rw [hz] at c4 ⊢
          rw [ag4, ag4, ag4] at c4
          rw [ag4]
          obtain ⟨k, hk⟩ : ∃ k, hf n = k := ⟨_, rfl⟩
          rw [hk] at C c3 k1 k2 hik
          have HC := Lib.hid C
          have C3 := Lib.hid c3
          have C4 := Lib.hid c4
          have i5 : k ≤ n := by omega
          have HK := Lib.hid (((((Kx.nil none w).add _ rfl (.cells #[.int .u32 f0, .int .u32 f1, .int .u32 f2, .int .u32 f3] 26 (0, 0))).add (w.heap.size + 1) (by simp) (.cells #[.int .u32 0, .int .u32 0, .int .u32 0, .int .u32 0] 26 (0, 0)))).add (w.heap.size + 1 + 1) (by simp) (.cells #[.int .u32 v0, .int .u32 v1, .int .u32 v2, .int .u32 v3] 26 (0, 0)))
          clear hl ih hd hol hmok ho C c3 c4 hx hCR hz hk wl hlast hl0 hr
          go_enter Tryd.func26, Tryd.ntmps26
          go_wp2_with fail
          refine (HC.out _).mono ?_
          rintro e w2 ⟨rfl, rfl⟩
          go_wp2_with fail
          refine (C3.out _ (Dd.row (HR.out.dropLast.oldn HK.out))).mono ?_
          rintro e w3 ⟨rfl, hb⟩
          have hs2 := hb.size
          simp at hs2
          replace HK := Lib.hid ((HK.out.after hb).add _ rfl (.cells #[.int .u32 x0, .int .u32 x1, .int .u32 x2, .int .u32 x3] 26 (0, 0)))
          clear hb
          obtain ⟨a0, a1, a2, a3, d0, d1, d2, d3⟩ := cells4 (HK.out.at 2 rfl)
          rw [ag4]
          go_wp2_with fail
          clear a0 a1 a2 a3 d0 d1 d2 d3
          refine (C4.out _).mono ?_
          rintro e w4 ⟨rfl, hb⟩
          replace HK := Lib.hid (HK.out.after hb)
          clear hb
          obtain ⟨a0, a1, a2, a3, d0, d1, d2, d3⟩ := cells4 (HK.out.at 1 rfl)
          have HE := Lib.hid (HK.out.put4 1 rfl (.inr (Nat.le_add_right _ _)) (.int .u32 z0) (.int .u32 z1) (.int .u32 z2) (.int .u32 z3))
          have HRR := Lib.hid (row4 (HK.out.at 1 rfl) (.int .u32 z0) (.int .u32 z1) (.int .u32 z2) (.int .u32 z3))
          go_wp2_with fail
          exact bodyPost_ret (v := .tuple #[.agg #[.int .u32 z0, .int .u32 z1, .int .u32 z2, .int .u32 z3], .bool okb]) (by
            obtain ⟨k0, k1, k2, k3, _⟩ := cells4 HRR.out
            simp [results, go_sem, k0, k1, k2, k3]) rfl ⟨rfl, HE.out.be.plain⟩
        · skip
          have wl := up_right (leaf := [f0, f1, f2, f3]) h2 hl0 hik
          rw [wl] at hmok ⊢
          have hx := mup_ok (n - hf n) (i - hf n) [f0, f1, f2, f3] l.dropLast ho hol.dropLast
          have c3 := fun w => ih (n - hf n) (by omega) (i - hf n) (c - 1) cap (some ⟨b, off, none⟩) [f0, f1, f2, f3] l.dropLast w (by omega) (by omega) (by rw [List.length_dropLast, hl]) (by omega) (by omega) hm ho
          obtain ⟨CR, hCR⟩ : ∃ CR, mup (n - hf n) (i - hf n) [f0, f1, f2, f3] l.dropLast = CR := ⟨_, rfl⟩
          rw [hCR] at hx c3 hmok ⊢
          obtain ⟨x, okb⟩ := CR
          have c4 := fun w => pair_ref (l.getLastD []) x w hlo hx
          obtain ⟨x0, x1, x2, x3, rfl, _⟩ := ok4 hx
          rw [hlast] at c4 hmok ⊢
          simp only at hmok
          obtain ⟨z0, z1, z2, z3, hz, _⟩ := ok4 hmok
          show Calls _ _ #[_, _, ag [f0, f1, f2, f3], _] w (UpE w (pair [v0, v1, v2, v3] [x0, x1, x2, x3]) okb)
          rw [hz] at c4 ⊢
          rw [ag4, ag4, ag4] at c4
          rw [ag4]
          rw [show ((n - hf n : Nat) : Int) = (n : Int) - (hf n : Int) by omega, show ((i - hf n : Nat) : Int) = (i : Int) - (hf n : Int) by omega] at c3
          obtain ⟨k, hk⟩ : ∃ k, hf n = k := ⟨_, rfl⟩
          rw [hk] at C c3 k1 k2 hik
          have HC := Lib.hid C
          have C3 := Lib.hid c3
          have C4 := Lib.hid c4
          have i5 : k ≤ n := by omega
          have j0 : 0 ≤ (i : Int) - (k : Int) := by omega
          have j1 : 0 ≤ (n : Int) - (k : Int) := by omega
          have HK := Lib.hid (((((Kx.nil none w).add _ rfl (.cells #[.int .u32 f0, .int .u32 f1, .int .u32 f2, .int .u32 f3] 26 (0, 0))).add (w.heap.size + 1) (by simp) (.cells #[.int .u32 0, .int .u32 0, .int .u32 0, .int .u32 0] 26 (0, 0)))).add (w.heap.size + 1 + 1) (by simp) (.cells #[.int .u32 v0, .int .u32 v1, .int .u32 v2, .int .u32 v3] 26 (0, 0)))
          clear hl ih hd hol hmok ho C c3 c4 hx hCR hz hk wl hlast hl0 hr
          go_enter Tryd.func26, Tryd.ntmps26
          go_wp2_with fail
          refine (HC.out _).mono ?_
          rintro e w2 ⟨rfl, rfl⟩
          go_wp2_with fail
          refine (C3.out _ (Dd.row (HR.out.dropLast.oldn HK.out))).mono ?_
          rintro e w3 ⟨rfl, hb⟩
          have hs2 := hb.size
          simp at hs2
          replace HK := Lib.hid ((HK.out.after hb).add _ rfl (.cells #[.int .u32 x0, .int .u32 x1, .int .u32 x2, .int .u32 x3] 26 (0, 0)))
          clear hb
          obtain ⟨a0, a1, a2, a3, d0, d1, d2, d3⟩ := cells4 (HK.out.at 2 rfl)
          rw [ag4]
          go_wp2_with fail
          clear a0 a1 a2 a3 d0 d1 d2 d3
          refine (C4.out _).mono ?_
          rintro e w4 ⟨rfl, hb⟩
          replace HK := Lib.hid (HK.out.after hb)
          clear hb
          obtain ⟨a0, a1, a2, a3, d0, d1, d2, d3⟩ := cells4 (HK.out.at 1 rfl)
          have HE := Lib.hid (HK.out.put4 1 rfl (.inr (Nat.le_add_right _ _)) (.int .u32 z0) (.int .u32 z1) (.int .u32 z2) (.int .u32 z3))
          have HRR := Lib.hid (row4 (HK.out.at 1 rfl) (.int .u32 z0) (.int .u32 z1) (.int .u32 z2) (.int .u32 z3))
          go_wp2_with fail
          exact bodyPost_ret (v := .tuple #[.agg #[.int .u32 z0, .int .u32 z1, .int .u32 z2, .int .u32 z3], .bool okb]) (by
            obtain ⟨k0, k1, k2, k3, _⟩ := cells4 HRR.out
            simp [results, go_sem, k0, k1, k2, k3]) rfl ⟨rfl, HE.out.be.plain⟩

end Go.Proofs.YtcjclbhkheogpaaDoor
