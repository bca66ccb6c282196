/- (*rest).roots: the contract. -/
import Derived.Test.YtioiaifmcemjlaaDoorMerF
import Derived.Deep.RegionHeld3
set_option linter.unusedVariables false
namespace Go.Proofs.YtioiaifmcemjlaaDoor
open Go.RowKit

theorem mrts_ok : ∀ (m n : Nat) (old : Ws) (wh : Bool) (l : Dl), Ok4 old → Oks l → Ok4 (mrts m n old wh l).1.1 ∧ Ok4 (mrts m n old wh l).1.2 := by
  intro m n
  induction n using Nat.strongRecOn generalizing m with
  | ind n ih =>
    intro old wh l h hl
    by_cases hw : m = n ∧ wh = true
    · obtain ⟨rfl, rfl⟩ := hw
      rw [rts_whole]; exact ⟨h, h⟩
    · by_cases hp : l = []
      · subst hp
        rw [rts_none hw]; exact ⟨zero4_ok, zero4_ok⟩
      · by_cases hm : m = n
        · subst hm
          cases wh
          · rw [rts_cut hp]; exact ⟨hl.last hp, hl.last hp⟩
          · exact absurd ⟨rfl, rfl⟩ hw
        · by_cases h1 : n ≤ 1
          · rw [mrts, if_neg hw, if_neg hp, if_neg hm, dif_pos h1]; exact ⟨zero4_ok, zero4_ok⟩
          · have h2 : 2 ≤ n := by omega
            have k1 := hf_lt h2
            have k2 := hf_pos n
            by_cases hi : m ≤ hf n
            · rw [rts_left h2 hm hp hi]
              obtain ⟨a, b⟩ := ih (hf n) k1 m old wh l.dropLast h hl.dropLast
              exact ⟨a, pair_ok0 b (hl.last hp)⟩
            · rw [rts_right h2 hm hp hi]
              obtain ⟨a, b⟩ := ih (n - hf n) (by omega) (m - hf n) old false l.dropLast h hl.dropLast
              exact ⟨pair_ok0 (hl.last hp) a, pair_ok0 (hl.last hp) b⟩
theorem ag44 (a0 a1 a2 a3 b0 b1 b2 b3 : Int) : ag ([a0, a1, a2, a3] ++ [b0, b1, b2, b3]) = .agg #[.int .u32 a0, .int .u32 a1, .int .u32 a2, .int .u32 a3, .int .u32 b0, .int .u32 b1, .int .u32 b2, .int .u32 b3] := rfl
def RtsE (w : World) (p : Nat) (A : Option Addr) (cap : Nat) (x y : Ws) (ok : Bool) (left : Nat) (e : Ending) (w' : World) : Prop :=
  e = .returned (.tuple #[ag (x ++ y), .bool ok]) ∧ Bx (some p) w w' ∧ w'.heap[p]? = some (restO (.slice A left cap))
theorem allS {p : Option Nat} {w W : World} {n3 n4 : Nat} {a b c : Nat × Obj} {t u : TypeId} {v0 v1 v2 v3 x0 x1 x2 x3 y0 y1 y2 y3 : Int} (h : Kx p w W [a, b, c, (n3, .cells #[.int .u32 v0, .int .u32 v1, .int .u32 v2, .int .u32 v3] t (0, 0)), (n4, .cells #[.int .u32 x0, .int .u32 x1, .int .u32 x2, .int .u32 x3, .int .u32 y0, .int .u32 y1, .int .u32 y2, .int .u32 y3] u (0, 0))]) : W.cell? ⟨n3, 0, none⟩ = some (.int .u32 v0) ∧ W.cell? ⟨n3, 1, none⟩ = some (.int .u32 v1) ∧ W.cell? ⟨n3, 2, none⟩ = some (.int .u32 v2) ∧ W.cell? ⟨n3, 3, none⟩ = some (.int .u32 v3) ∧ W.cell? ⟨n4, 0, none⟩ = some (.int .u32 x0) ∧ W.cell? ⟨n4, 1, none⟩ = some (.int .u32 x1) ∧ W.cell? ⟨n4, 2, none⟩ = some (.int .u32 x2) ∧ W.cell? ⟨n4, 3, none⟩ = some (.int .u32 x3) ∧ W.cell? ⟨n4, 4, none⟩ = some (.int .u32 y0) ∧ W.cell? ⟨n4, 5, none⟩ = some (.int .u32 y1) ∧ W.cell? ⟨n4, 6, none⟩ = some (.int .u32 y2) ∧ W.cell? ⟨n4, 7, none⟩ = some (.int .u32 y3) := by
  obtain ⟨a0, a1, a2, a3, _⟩ := cells4 (h.at 3 rfl)
  obtain ⟨b0, b1, b2, b3, b4, b5, b6, b7, _⟩ := cells8 (h.at 4 rfl)
  exact ⟨a0, a1, a2, a3, b0, b1, b2, b3, b4, b5, b6, b7⟩
theorem allS2 {p : Option Nat} {w W : World} {n3 n4 q : Nat} {a b : Nat × Obj} {t u r : TypeId} {s0 s1 s2 s3 s4 s5 s6 s7 g0 g1 g2 g3 g4 g5 g6 g7 : Value} {v0 v1 v2 v3 x0 x1 x2 x3 y0 y1 y2 y3 : Int} (h : Kx p w W [a, b, (q, .cells #[g0, g1, g2, g3, g4, g5, g6, g7] r (0, 0)), (n3, .cells #[.int .u32 v0, .int .u32 v1, .int .u32 v2, .int .u32 v3] t (0, 0)), (n4, .cells #[.int .u32 x0, .int .u32 x1, .int .u32 x2, .int .u32 x3, .int .u32 y0, .int .u32 y1, .int .u32 y2, .int .u32 y3] u (0, 0))]) (hq : p = some q ∨ w.heap.size ≤ q) : ((((((((W.setCell ⟨q, 0, none⟩ s0).setCell ⟨q, 1, none⟩ s1).setCell ⟨q, 2, none⟩ s2).setCell ⟨q, 3, none⟩ s3).setCell ⟨q, 4, none⟩ s4).setCell ⟨q, 5, none⟩ s5).setCell ⟨q, 6, none⟩ s6).setCell ⟨q, 7, none⟩ s7).cell? ⟨n3, 0, none⟩ = some (.int .u32 v0) ∧ ((((((((W.setCell ⟨q, 0, none⟩ s0).setCell ⟨q, 1, none⟩ s1).setCell ⟨q, 2, none⟩ s2).setCell ⟨q, 3, none⟩ s3).setCell ⟨q, 4, none⟩ s4).setCell ⟨q, 5, none⟩ s5).setCell ⟨q, 6, none⟩ s6).setCell ⟨q, 7, none⟩ s7).cell? ⟨n3, 1, none⟩ = some (.int .u32 v1) ∧ ((((((((W.setCell ⟨q, 0, none⟩ s0).setCell ⟨q, 1, none⟩ s1).setCell ⟨q, 2, none⟩ s2).setCell ⟨q, 3, none⟩ s3).setCell ⟨q, 4, none⟩ s4).setCell ⟨q, 5, none⟩ s5).setCell ⟨q, 6, none⟩ s6).setCell ⟨q, 7, none⟩ s7).cell? ⟨n3, 2, none⟩ = some (.int .u32 v2) ∧ ((((((((W.setCell ⟨q, 0, none⟩ s0).setCell ⟨q, 1, none⟩ s1).setCell ⟨q, 2, none⟩ s2).setCell ⟨q, 3, none⟩ s3).setCell ⟨q, 4, none⟩ s4).setCell ⟨q, 5, none⟩ s5).setCell ⟨q, 6, none⟩ s6).setCell ⟨q, 7, none⟩ s7).cell? ⟨n3, 3, none⟩ = some (.int .u32 v3) ∧ ((((((((W.setCell ⟨q, 0, none⟩ s0).setCell ⟨q, 1, none⟩ s1).setCell ⟨q, 2, none⟩ s2).setCell ⟨q, 3, none⟩ s3).setCell ⟨q, 4, none⟩ s4).setCell ⟨q, 5, none⟩ s5).setCell ⟨q, 6, none⟩ s6).setCell ⟨q, 7, none⟩ s7).cell? ⟨n4, 0, none⟩ = some (.int .u32 x0) ∧ ((((((((W.setCell ⟨q, 0, none⟩ s0).setCell ⟨q, 1, none⟩ s1).setCell ⟨q, 2, none⟩ s2).setCell ⟨q, 3, none⟩ s3).setCell ⟨q, 4, none⟩ s4).setCell ⟨q, 5, none⟩ s5).setCell ⟨q, 6, none⟩ s6).setCell ⟨q, 7, none⟩ s7).cell? ⟨n4, 1, none⟩ = some (.int .u32 x1) ∧ ((((((((W.setCell ⟨q, 0, none⟩ s0).setCell ⟨q, 1, none⟩ s1).setCell ⟨q, 2, none⟩ s2).setCell ⟨q, 3, none⟩ s3).setCell ⟨q, 4, none⟩ s4).setCell ⟨q, 5, none⟩ s5).setCell ⟨q, 6, none⟩ s6).setCell ⟨q, 7, none⟩ s7).cell? ⟨n4, 2, none⟩ = some (.int .u32 x2) ∧ ((((((((W.setCell ⟨q, 0, none⟩ s0).setCell ⟨q, 1, none⟩ s1).setCell ⟨q, 2, none⟩ s2).setCell ⟨q, 3, none⟩ s3).setCell ⟨q, 4, none⟩ s4).setCell ⟨q, 5, none⟩ s5).setCell ⟨q, 6, none⟩ s6).setCell ⟨q, 7, none⟩ s7).cell? ⟨n4, 3, none⟩ = some (.int .u32 x3) ∧ ((((((((W.setCell ⟨q, 0, none⟩ s0).setCell ⟨q, 1, none⟩ s1).setCell ⟨q, 2, none⟩ s2).setCell ⟨q, 3, none⟩ s3).setCell ⟨q, 4, none⟩ s4).setCell ⟨q, 5, none⟩ s5).setCell ⟨q, 6, none⟩ s6).setCell ⟨q, 7, none⟩ s7).cell? ⟨n4, 4, none⟩ = some (.int .u32 y0) ∧ ((((((((W.setCell ⟨q, 0, none⟩ s0).setCell ⟨q, 1, none⟩ s1).setCell ⟨q, 2, none⟩ s2).setCell ⟨q, 3, none⟩ s3).setCell ⟨q, 4, none⟩ s4).setCell ⟨q, 5, none⟩ s5).setCell ⟨q, 6, none⟩ s6).setCell ⟨q, 7, none⟩ s7).cell? ⟨n4, 5, none⟩ = some (.int .u32 y1) ∧ ((((((((W.setCell ⟨q, 0, none⟩ s0).setCell ⟨q, 1, none⟩ s1).setCell ⟨q, 2, none⟩ s2).setCell ⟨q, 3, none⟩ s3).setCell ⟨q, 4, none⟩ s4).setCell ⟨q, 5, none⟩ s5).setCell ⟨q, 6, none⟩ s6).setCell ⟨q, 7, none⟩ s7).cell? ⟨n4, 6, none⟩ = some (.int .u32 y2) ∧ ((((((((W.setCell ⟨q, 0, none⟩ s0).setCell ⟨q, 1, none⟩ s1).setCell ⟨q, 2, none⟩ s2).setCell ⟨q, 3, none⟩ s3).setCell ⟨q, 4, none⟩ s4).setCell ⟨q, 5, none⟩ s5).setCell ⟨q, 6, none⟩ s6).setCell ⟨q, 7, none⟩ s7).cell? ⟨n4, 7, none⟩ = some (.int .u32 y3) :=
  allS (h.put8 2 rfl hq s0 s1 s2 s3 s4 s5 s6 s7)
def RtsAt (n : Nat) : Prop := ∀ (m p c cap : Nat) (A : Option Addr) (old : Ws) (wh : Bool) (l : Dl) (w : World), 1 ≤ m → m ≤ n → n ≤ 1024 → l.length = c → c ≤ 1024 → c ≤ cap → cap ≤ 9223372036854775807 → Ok4 old → Oks l → Dq w p A l → w.heap[p]? = some (restO (.slice A c cap)) → TabsB p w →
    Calls Tryd.prog 47 #[.pointer (some ⟨p, 0, none⟩), .int .i64 (m : Int), .int .i64 (n : Int), ag old, .bool wh] w (RtsE w p A cap (mrts m n old wh l).1.1 (mrts m n old wh l).1.2 (mrts m n old wh l).2.1 (mrts m n old wh l).2.2.length)
set_option maxRecDepth 100000 in
set_option maxHeartbeats 16000000 in
theorem roots_code : ∀ n, RtsAt n := by
  intro n
  induction n using Nat.strongRecOn with
  | ind n ih =>
    intro m p c cap A old wh l w h1 hmn' hn hl hc hcc hm ho hol hq hp ht
    obtain ⟨f0, f1, f2, f3, hf, _⟩ := ok4 ho
    subst hf
    have hlt : p < w.heap.size := (Array.getElem?_eq_some_iff.1 hp).1
    have hne : w.heap.size ≠ p := by omega
    have hmok := mrts_ok m n [f0, f1, f2, f3] wh l ho hol
    by_cases hmw : m = n ∧ wh = true
    · obtain ⟨rfl, rfl⟩ := hmw
      rw [rts_whole, hl]
      have HP := Lib.hid hp
      clear ih hq ht hol hp hl hmok ho
      show Calls _ _ #[_, _, _, ag [f0, f1, f2, f3], _] w (RtsE w p A cap [f0, f1, f2, f3] [f0, f1, f2, f3] true c)
      rw [ag4]
      go_enter Tryd.func47, Tryd.ntmps47
      go_wp2_with fail
      have HE := Lib.hid (((Kx.one HP.out (some p)).more (.cells #[.int .u32 f0, .int .u32 f1, .int .u32 f2, .int .u32 f3] 29 (0, 0))).more (.cells #[.int .u32 f0, .int .u32 f1, .int .u32 f2, .int .u32 f3, .int .u32 f0, .int .u32 f1, .int .u32 f2, .int .u32 f3] 71 (0, 0)))
      exact bodyPost_ret (v := .tuple #[.agg #[.int .u32 f0, .int .u32 f1, .int .u32 f2, .int .u32 f3, .int .u32 f0, .int .u32 f1, .int .u32 f2, .int .u32 f3], .bool true]) (by simp [results, go_sem]) rfl ⟨rfl, HE.out.be, HE.out.at 0 rfl⟩
    · have hpick : (((m : Int) == (n : Int)) = true ∧ wh = false) ∨ ((m : Int) == (n : Int)) = false := by
        by_cases e : m = n
        · subst e
          cases wh
          · exact .inl ⟨by simp, rfl⟩
          · exact absurd ⟨rfl, rfl⟩ hmw
        · exact .inr (by rw [beq_eq_false_iff_ne]; omega)
      by_cases hl0 : l = []
      · subst hl0
        have hc0 : c = 0 := by simpa using hl.symm
        subst hc0
        rw [rts_none hmw]
        have T := Lib.hid (fun w => takeLast_none p cap A w)
        have HK := Lib.hid (((Kx.one hp (some p)).add _ rfl (.cells #[.int .u32 f0, .int .u32 f1, .int .u32 f2, .int .u32 f3] 29 (0, 0))).add (w.heap.size + 1) (by simp) (.cells #[.int .u32 0, .int .u32 0, .int .u32 0, .int .u32 0, .int .u32 0, .int .u32 0, .int .u32 0, .int .u32 0] 71 (0, 0)))
        have HP := Lib.hid hpick
        clear hp hl ih hq ht hol hmok ho hpick hmw
        show Calls _ _ #[_, _, _, ag [f0, f1, f2, f3], _] w (RtsE w p A cap [0, 0, 0, 0] [0, 0, 0, 0] false 0)
        rw [ag4]
        rcases HP.out with ⟨i3, rfl⟩ | i3
        all_goals
          clear HP
          go_enter Tryd.func47, Tryd.ntmps47
          go_wp2_with fail
          refine (T.out _ (HK.out.at 0 rfl)).mono ?_
          rintro e w1 ⟨rfl, hb⟩
          have hs := hb.size
          simp at hs
          replace HK := Lib.hid ((HK.out.after hb).more (.cells #[.int .u32 0, .int .u32 0, .int .u32 0, .int .u32 0] 29 (0, 0)))
          clear hb
          obtain ⟨a0, a1, a2, a3, a4, a5, a6, a7, d0, d1, d2, d3, d4, d5, d6, d7⟩ := cells8 (HK.out.at 2 rfl)
          have HE := Lib.hid (HK.out.put8 2 rfl (.inr (Nat.le_add_right _ _)) (.int .u32 0) (.int .u32 0) (.int .u32 0) (.int .u32 0) (.int .u32 0) (.int .u32 0) (.int .u32 0) (.int .u32 0))
          have HR := Lib.hid (row8 (HK.out.at 2 rfl) (.int .u32 0) (.int .u32 0) (.int .u32 0) (.int .u32 0) (.int .u32 0) (.int .u32 0) (.int .u32 0) (.int .u32 0))
          go_wp2_with fail
          exact bodyPost_ret (v := .tuple #[.agg #[.int .u32 0, .int .u32 0, .int .u32 0, .int .u32 0, .int .u32 0, .int .u32 0, .int .u32 0, .int .u32 0], .bool false]) (by
            obtain ⟨k0, k1, k2, k3, k4, k5, k6, k7, _⟩ := cells8 HR.out
            simp [results, go_sem, k0, k1, k2, k3, k4, k5, k6, k7]) rfl ⟨rfl, HE.out.be, HE.out.at 0 rfl⟩
      · have hl1 : 1 ≤ c := by
          rw [← hl]
          exact List.length_pos_iff.2 hl0
        have hlo := hol.last hl0
        have hlo' := hlo
        obtain ⟨v0, v1, v2, v3, hlast, _⟩ := ok4 hlo'
        clear hlo'
        have t := fun w => takeLast_any (p := p) (A := A) (cap := cap) w hl hl1 hc hcc hm hlast
        have T := Lib.hid t
        have HQ := Lib.hid hq
        have HT := Lib.hid ht
        by_cases hmn : m = n
        · subst hmn
          obtain rfl : wh = false := by
            cases wh
            · rfl
            · exact absurd ⟨rfl, rfl⟩ hmw
          rw [rts_cut hl0, hlast, List.length_dropLast, hl]
          have HK := Lib.hid (((Kx.one hp (some p)).add _ rfl (.cells #[.int .u32 f0, .int .u32 f1, .int .u32 f2, .int .u32 f3] 29 (0, 0))).add (w.heap.size + 1) (by simp) (.cells #[.int .u32 0, .int .u32 0, .int .u32 0, .int .u32 0, .int .u32 0, .int .u32 0, .int .u32 0, .int .u32 0] 71 (0, 0)))
          clear hp hl ih hq ht hol hmok ho hlast hl0 t hmw hpick
          show Calls _ _ #[_, _, _, ag [f0, f1, f2, f3], _] w (RtsE w p A cap [v0, v1, v2, v3] [v0, v1, v2, v3] true (c - 1))
          rw [ag4]
          go_enter Tryd.func47, Tryd.ntmps47
          go_wp2_with fail
          refine (T.out _ (HQ.out.old HK.out) (HK.out.at 0 rfl)).mono ?_
          rintro e w1 ⟨rfl, hb, hpp⟩
          have hs := hb.size
          simp at hs
          replace HK := Lib.hid ((HK.out.afterq 0 rfl (.inl rfl) hb hpp).add _ rfl (.cells #[.int .u32 v0, .int .u32 v1, .int .u32 v2, .int .u32 v3] 29 (0, 0)))
          clear hb hpp
          obtain ⟨a0, a1, a2, a3, a4, a5, a6, a7, d0, d1, d2, d3, d4, d5, d6, d7⟩ := cells8 (HK.out.at 2 rfl)
          have HE := Lib.hid (HK.out.put8 2 rfl (.inr (Nat.le_add_right _ _)) (.int .u32 v0) (.int .u32 v1) (.int .u32 v2) (.int .u32 v3) (.int .u32 v0) (.int .u32 v1) (.int .u32 v2) (.int .u32 v3))
          have HR := Lib.hid (row8 (HK.out.at 2 rfl) (.int .u32 v0) (.int .u32 v1) (.int .u32 v2) (.int .u32 v3) (.int .u32 v0) (.int .u32 v1) (.int .u32 v2) (.int .u32 v3))
          go_wp2_with fail
          exact bodyPost_ret (v := .tuple #[.agg #[.int .u32 v0, .int .u32 v1, .int .u32 v2, .int .u32 v3, .int .u32 v0, .int .u32 v1, .int .u32 v2, .int .u32 v3], .bool true]) (by
            obtain ⟨k0, k1, k2, k3, k4, k5, k6, k7, _⟩ := cells8 HR.out
            simp [results, go_sem, k0, k1, k2, k3, k4, k5, k6, k7]) rfl ⟨rfl, HE.out.be, HE.out.at 0 rfl⟩
        have h2 : 2 ≤ n := by omega
        have k1 := hf_lt h2
        have k2 := hf_pos n
        have i3 : ((m : Int) == (n : Int)) = false := by rw [beq_eq_false_iff_ne]; omega
        clear hpick
        have C := fun w => half_code n w h2 hn
        by_cases hik : m ≤ hf n
        · skip
          have wl := rts_left (old := [f0, f1, f2, f3]) (wh := wh) h2 hmn hl0 hik
          rw [wl] at hmok ⊢
          have hx := mrts_ok m (hf n) [f0, f1, f2, f3] wh l.dropLast ho hol.dropLast
          have c3 := fun w => ih (hf n) k1 m p (c - 1) cap A [f0, f1, f2, f3] wh l.dropLast w h1 hik (by omega) (by rw [List.length_dropLast, hl]) (by omega) (by omega) hm ho hol.dropLast
          obtain ⟨CR, hCR⟩ : ∃ CR, mrts m (hf n) [f0, f1, f2, f3] wh l.dropLast = CR := ⟨_, rfl⟩
          rw [hCR] at hx c3 hmok ⊢
          obtain ⟨⟨x, y⟩, okb, left⟩ := CR
          obtain ⟨hx, hy⟩ := hx
          simp only at hx hy
          have c4 := fun w ht => pair_code y (l.getLastD []) w hy hlo ht
          obtain ⟨x0, x1, x2, x3, rfl, _⟩ := ok4 hx
          obtain ⟨y0, y1, y2, y3, rfl, _⟩ := ok4 hy
          rw [hlast] at hmok ⊢
          simp only at hmok
          rw [hlast] at c4
          obtain ⟨z0, z1, z2, z3, hz, _⟩ := ok4 hmok.2
          show Calls _ _ #[_, _, _, ag [f0, f1, f2, f3], _] w (RtsE w p A cap [x0, x1, x2, x3] (pair [y0, y1, y2, y3] [v0, v1, v2, v3]) okb left.length)
          rw [hz] at c4 ⊢
          rw [ag4, ag4, ag4] at c4
          rw [ag4]
          obtain ⟨k, hk⟩ : ∃ k, hf n = k := ⟨_, rfl⟩
          rw [hk] at C c3 k1 k2 hik
          have HC := Lib.hid C
          have C3 := Lib.hid c3
          have C4 := Lib.hid c4
          have i5 : k ≤ n := by omega
          have HK := Lib.hid (((Kx.one hp (some p)).add _ rfl (.cells #[.int .u32 f0, .int .u32 f1, .int .u32 f2, .int .u32 f3] 29 (0, 0))).add (w.heap.size + 1) (by simp) (.cells #[.int .u32 0, .int .u32 0, .int .u32 0, .int .u32 0, .int .u32 0, .int .u32 0, .int .u32 0, .int .u32 0] 71 (0, 0)))
          clear hp hl ih hq ht hol hmok ho C c3 c4 hx hy hCR hz hk wl hlast hl0 t
          go_enter Tryd.func47, Tryd.ntmps47
          go_wp2_with fail
          refine (T.out _ (HQ.out.old HK.out) (HK.out.at 0 rfl)).mono ?_
          rintro e w1 ⟨rfl, hb, hpp⟩
          have hs := hb.size
          simp at hs
          replace HK := Lib.hid ((HK.out.afterq 0 rfl (.inl rfl) hb hpp).add _ rfl (.cells #[.int .u32 v0, .int .u32 v1, .int .u32 v2, .int .u32 v3] 29 (0, 0)))
          clear hb hpp
          go_wp2_with fail
          refine (HC.out _).mono ?_
          rintro e w2 ⟨rfl, rfl⟩
          obtain ⟨a0, a1, a2, a3, d0, d1, d2, d3⟩ := cells4 (HK.out.at 1 rfl)
          go_wp2_with fail
          clear a0 a1 a2 a3 d0 d1 d2 d3
          refine (C3.out _ (HQ.out.dropLast.old HK.out) (HK.out.at 0 rfl) (HK.out.tabs HT.out hlt)).mono ?_
          rintro e w3 ⟨rfl, hb, hpp⟩
          have hs2 := hb.size
          simp at hs2
          replace HK := Lib.hid ((HK.out.afterq 0 rfl (.inl rfl) hb hpp).add _ rfl (.cells #[.int .u32 x0, .int .u32 x1, .int .u32 x2, .int .u32 x3, .int .u32 y0, .int .u32 y1, .int .u32 y2, .int .u32 y3] 71 (0, 0)))
          clear hb hpp
          rw [ag44]
          go_wp2_with fail
          replace HK := Lib.hid HK.out.drew
          obtain ⟨a0, a1, a2, a3, d0, d1, d2, d3⟩ := cells4 (HK.out.at 3 rfl)
          obtain ⟨b0, b1, b2, b3, b4, b5, b6, b7, e0, e1, e2, e3, e4, e5, e6, e7⟩ := cells8 (HK.out.at 4 rfl)
          go_region_law (first
            | (go_simp; go_at_call 39; (with_reducible refine (C4.out _ (HK.out.tabs HT.out hlt).toTabs).mono ?_); rintro e w' ⟨rfl, hb⟩; replace HK := Lib.hid (HK.out.after hb); clear hb a0 a1 a2 a3 d0 d1 d2 d3 b0 b1 b2 b3 b4 b5 b6 b7 e0 e1 e2 e3 e4 e5 e6 e7; obtain ⟨a0, a1, a2, a3, d0, d1, d2, d3⟩ := cells4 (HK.out.at 3 rfl); obtain ⟨b0, b1, b2, b3, b4, b5, b6, b7, e0, e1, e2, e3, e4, e5, e6, e7⟩ := cells8 (HK.out.at 4 rfl); obtain ⟨q0, q1, q2, q3, q4, q5, q6, q7, r0, r1, r2, r3, r4, r5, r6, r7⟩ := cells8 (HK.out.at 2 rfl)))
          all_goals
            have HE := Lib.hid (HK.out.put8 2 rfl (.inr (Nat.le_add_right _ _)) (.int .u32 x0) (.int .u32 x1) (.int .u32 x2) (.int .u32 x3) (.int .u32 z0) (.int .u32 z1) (.int .u32 z2) (.int .u32 z3))
            have HR := Lib.hid (row8 (HK.out.at 2 rfl) (.int .u32 x0) (.int .u32 x1) (.int .u32 x2) (.int .u32 x3) (.int .u32 z0) (.int .u32 z1) (.int .u32 z2) (.int .u32 z3))
            go_wp2_with fail
            exact bodyPost_ret (v := .tuple #[.agg #[.int .u32 x0, .int .u32 x1, .int .u32 x2, .int .u32 x3, .int .u32 z0, .int .u32 z1, .int .u32 z2, .int .u32 z3], .bool okb]) (by
              obtain ⟨k0, k1, k2, k3, k4, k5, k6, k7, _⟩ := cells8 HR.out
              simp [results, go_sem, k0, k1, k2, k3, k4, k5, k6, k7]) rfl ⟨rfl, HE.out.be, HE.out.at 0 rfl⟩
        · skip
          have wl := rts_right (old := [f0, f1, f2, f3]) (wh := wh) h2 hmn hl0 hik
          rw [wl] at hmok ⊢
          have hx := mrts_ok (m - hf n) (n - hf n) [f0, f1, f2, f3] false l.dropLast ho hol.dropLast
          have c3 := fun w => ih (n - hf n) (by omega) (m - hf n) p (c - 1) cap A [f0, f1, f2, f3] false l.dropLast w (by omega) (by omega) (by omega) (by rw [List.length_dropLast, hl]) (by omega) (by omega) hm ho hol.dropLast
          obtain ⟨CR, hCR⟩ : ∃ CR, mrts (m - hf n) (n - hf n) [f0, f1, f2, f3] false l.dropLast = CR := ⟨_, rfl⟩
          rw [hCR] at hx c3 hmok ⊢
          obtain ⟨⟨x, y⟩, okb, left⟩ := CR
          obtain ⟨hx, hy⟩ := hx
          simp only at hx hy
          have c4 := fun w ht => pair_code (l.getLastD []) x w hlo hx ht
          have c5 := fun w ht => pair_code (l.getLastD []) y w hlo hy ht
          obtain ⟨x0, x1, x2, x3, rfl, _⟩ := ok4 hx
          obtain ⟨y0, y1, y2, y3, rfl, _⟩ := ok4 hy
          rw [hlast] at hmok ⊢
          simp only at hmok
          rw [hlast] at c4 c5
          obtain ⟨z0, z1, z2, z3, hz, _⟩ := ok4 hmok.1
          obtain ⟨t0, t1, t2, t3, hz2, _⟩ := ok4 hmok.2
          show Calls _ _ #[_, _, _, ag [f0, f1, f2, f3], _] w (RtsE w p A cap (pair [v0, v1, v2, v3] [x0, x1, x2, x3]) (pair [v0, v1, v2, v3] [y0, y1, y2, y3]) okb left.length)
          rw [hz] at c4 ⊢
          rw [hz2] at c5 ⊢
          rw [ag4, ag4, ag4] at c4 c5
          rw [ag4]
          rw [show ((n - hf n : Nat) : Int) = (n : Int) - (hf n : Int) by omega, show ((m - hf n : Nat) : Int) = (m : Int) - (hf n : Int) by omega] at c3
          obtain ⟨k, hk⟩ : ∃ k, hf n = k := ⟨_, rfl⟩
          rw [hk] at C c3 k1 k2 hik
          have HC := Lib.hid C
          have C3 := Lib.hid c3
          have C4 := Lib.hid c4
          have C5 := Lib.hid c5
          have i5 : k ≤ n := by omega
          have j0 : 0 ≤ (m : Int) - (k : Int) := by omega
          have j1 : 0 ≤ (n : Int) - (k : Int) := by omega
          have HK := Lib.hid (((Kx.one hp (some p)).add _ rfl (.cells #[.int .u32 f0, .int .u32 f1, .int .u32 f2, .int .u32 f3] 29 (0, 0))).add (w.heap.size + 1) (by simp) (.cells #[.int .u32 0, .int .u32 0, .int .u32 0, .int .u32 0, .int .u32 0, .int .u32 0, .int .u32 0, .int .u32 0] 71 (0, 0)))
          clear hp hl ih hq ht hol hmok ho C c3 c4 c5 hx hy hCR hz hz2 hk wl hlast hl0 t
          go_enter Tryd.func47, Tryd.ntmps47
          go_wp2_with fail
          refine (T.out _ (HQ.out.old HK.out) (HK.out.at 0 rfl)).mono ?_
          rintro e w1 ⟨rfl, hb, hpp⟩
          have hs := hb.size
          simp at hs
          replace HK := Lib.hid ((HK.out.afterq 0 rfl (.inl rfl) hb hpp).add _ rfl (.cells #[.int .u32 v0, .int .u32 v1, .int .u32 v2, .int .u32 v3] 29 (0, 0)))
          clear hb hpp
          go_wp2_with fail
          refine (HC.out _).mono ?_
          rintro e w2 ⟨rfl, rfl⟩
          obtain ⟨a0, a1, a2, a3, d0, d1, d2, d3⟩ := cells4 (HK.out.at 1 rfl)
          go_wp2_with fail
          clear a0 a1 a2 a3 d0 d1 d2 d3
          refine (C3.out _ (HQ.out.dropLast.old HK.out) (HK.out.at 0 rfl) (HK.out.tabs HT.out hlt)).mono ?_
          rintro e w3 ⟨rfl, hb, hpp⟩
          have hs2 := hb.size
          simp at hs2
          replace HK := Lib.hid ((HK.out.afterq 0 rfl (.inl rfl) hb hpp).add _ rfl (.cells #[.int .u32 x0, .int .u32 x1, .int .u32 x2, .int .u32 x3, .int .u32 y0, .int .u32 y1, .int .u32 y2, .int .u32 y3] 71 (0, 0)))
          clear hb hpp
          rw [ag44]
          go_wp2_with fail
          replace HK := Lib.hid HK.out.drew
          have hk := HK.out
          simp only [List.cons_append, List.nil_append, List.set_cons_zero] at hk
          replace HK := Lib.hid hk
          clear hk
          go_region_held3 (fun W => W.cell? ⟨w1.heap.size, 0, none⟩ = some (.int .u32 v0) ∧ W.cell? ⟨w1.heap.size, 1, none⟩ = some (.int .u32 v1) ∧ W.cell? ⟨w1.heap.size, 2, none⟩ = some (.int .u32 v2) ∧ W.cell? ⟨w1.heap.size, 3, none⟩ = some (.int .u32 v3) ∧ W.cell? ⟨w3.heap.size, 0, none⟩ = some (.int .u32 x0) ∧ W.cell? ⟨w3.heap.size, 1, none⟩ = some (.int .u32 x1) ∧ W.cell? ⟨w3.heap.size, 2, none⟩ = some (.int .u32 x2) ∧ W.cell? ⟨w3.heap.size, 3, none⟩ = some (.int .u32 x3) ∧ W.cell? ⟨w3.heap.size, 4, none⟩ = some (.int .u32 y0) ∧ W.cell? ⟨w3.heap.size, 5, none⟩ = some (.int .u32 y1) ∧ W.cell? ⟨w3.heap.size, 6, none⟩ = some (.int .u32 y2) ∧ W.cell? ⟨w3.heap.size, 7, none⟩ = some (.int .u32 y3))
            (first | (with_reducible exact allS2 HK.out (.inr (Nat.le_add_right _ _))) | (with_reducible exact allS HK.out))
            (first
              | (go_at_call 39; (with_reducible refine (C4.out _ (HK.out.tabs HT.out hlt).toTabs).mono ?_); rintro e w' ⟨rfl, hb⟩; replace HK := Lib.hid (HK.out.after hb); clear hb; obtain ⟨q0, q1, q2, q3, q4, q5, q6, q7, r0, r1, r2, r3, r4, r5, r6, r7⟩ := cells8 (HK.out.at 2 rfl))
              | (go_at_call 39; (with_reducible refine (C5.out _ (HK.out.tabs HT.out hlt).toTabs).mono ?_); rintro e w' ⟨rfl, hb⟩; replace HK := Lib.hid (HK.out.after hb); clear hb; obtain ⟨q0, q1, q2, q3, q4, q5, q6, q7, r0, r1, r2, r3, r4, r5, r6, r7⟩ := cells8 (HK.out.at 2 rfl)))
          all_goals
            have HE := Lib.hid (HK.out.put8 2 rfl (.inr (Nat.le_add_right _ _)) (.int .u32 z0) (.int .u32 z1) (.int .u32 z2) (.int .u32 z3) (.int .u32 t0) (.int .u32 t1) (.int .u32 t2) (.int .u32 t3))
            have HR := Lib.hid (row8 (HK.out.at 2 rfl) (.int .u32 z0) (.int .u32 z1) (.int .u32 z2) (.int .u32 z3) (.int .u32 t0) (.int .u32 t1) (.int .u32 t2) (.int .u32 t3))
            go_wp2_with fail
            exact bodyPost_ret (v := .tuple #[.agg #[.int .u32 z0, .int .u32 z1, .int .u32 z2, .int .u32 z3, .int .u32 t0, .int .u32 t1, .int .u32 t2, .int .u32 t3], .bool okb]) (by
              obtain ⟨k0, k1, k2, k3, k4, k5, k6, k7, _⟩ := cells8 HR.out
              simp [results, go_sem, k0, k1, k2, k3, k4, k5, k6, k7]) rfl ⟨rfl, HE.out.be, HE.out.at 0 rfl⟩

end Go.Proofs.YtioiaifmcemjlaaDoor
