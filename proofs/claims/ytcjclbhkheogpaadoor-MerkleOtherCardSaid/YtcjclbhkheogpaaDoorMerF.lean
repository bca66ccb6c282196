/- (*rest).takeLast and (*rest).root: the contracts. -/
import Derived.Test.YtcjclbhkheogpaaDoorMerE
set_option linter.unusedVariables false
namespace Go.Proofs.YtcjclbhkheogpaaDoor
open Go.RowKit

/-- The block of a rest. -/
abbrev restO (v : Value) : Obj := .cells #[v] 47 (0, 0)
set_option maxRecDepth 100000 in
theorem takeLast_none (p cap : Nat) (A : Option Addr) (w : World) (hp : w.heap[p]? = some (restO (.slice A 0 cap))) :
    Calls Tryd.prog 35 #[.pointer (some ⟨p, 0, none⟩)] w fun e w' => e = .returned (.tuple #[.agg #[.int .u32 0, .int .u32 0, .int .u32 0, .int .u32 0], .bool false]) ∧ Below w.heap.size w w' := by
  have hlt : p < w.heap.size := (Array.getElem?_eq_some_iff.1 hp).1
  have hne : w.heap.size ≠ p := by omega
  obtain ⟨cp, fp⟩ := cells1 hp
  clear hp
  go_enter Tryd.func35, Tryd.ntmps35
  go_wp2_with fail
  exact bodyPost_ret (v := .tuple #[.agg #[.int .u32 0, .int .u32 0, .int .u32 0, .int .u32 0], .bool false]) (by simp [results, go_sem]) rfl ⟨rfl, (Below.refl _ _).alloc (Nat.le_refl _) _⟩
set_option maxRecDepth 100000 in
set_option maxHeartbeats 1000000 in
theorem takeLast_some (p b off n cap : Nat) (l : Dl) (w : World) {v0 v1 v2 v3 : Int} (hp : w.heap[p]? = some (restO (.slice (some ⟨b, off, none⟩) n cap))) (hl : l.length = n) (h1 : 1 ≤ n) (hn : n ≤ 1024) (hc : n ≤ cap) (hm : cap ≤ 9223372036854775807) (hr : DRow w b off l) (hpb : p ≠ b) (hj : l[n - 1]? = some [v0, v1, v2, v3]) :
    Calls Tryd.prog 35 #[.pointer (some ⟨p, 0, none⟩)] w fun e w' => e = .returned (.tuple #[.agg #[.int .u32 v0, .int .u32 v1, .int .u32 v2, .int .u32 v3], .bool true]) ∧ Bx (some p) w w' ∧ w'.heap[p]? = some (restO (.slice (some ⟨b, off, none⟩) (n - 1) cap)) := by
  have hlt : p < w.heap.size := (Array.getElem?_eq_some_iff.1 hp).1
  have hne : w.heap.size ≠ p := by omega
  have hbw := hr.lt
  have hnb : w.heap.size ≠ b := by omega
  obtain ⟨cp, fp⟩ := cells1 hp
  obtain ⟨c0, c1, c2, c3⟩ := hr.four hj
  have HP := Lib.hid hp
  clear hp hr hj hl
  have i0 : 0 ≤ (n : Int) - 1 := by omega
  have i1 : (n : Int) - 1 < (n : Int) := by omega
  have i2 : ((n : Int) - 1).toNat = n - 1 := by omega
  have i3 : n - 1 ≤ cap := by omega
  go_enter Tryd.func35, Tryd.ntmps35
  go_wp2_with fail
  have HE := Lib.hid ((((Kx.one HP.out (some p)).put1 0 rfl (.inl rfl) (.slice (some ⟨b, off, none⟩) (n - 1) cap)).more (.cells #[.int .u32 v0, .int .u32 v1, .int .u32 v2, .int .u32 v3] 26)).more (.cells #[.int .u32 v0, .int .u32 v1, .int .u32 v2, .int .u32 v3] 26))
  exact bodyPost_ret (v := .tuple #[.agg #[.int .u32 v0, .int .u32 v1, .int .u32 v2, .int .u32 v3], .bool true]) (by simp [results, go_sem]) rfl ⟨rfl, HE.out.be, HE.out.at 0 rfl⟩
/-- The rest at p reads as a list. -/
def Dq (w : World) (p : Nat) (A : Option Addr) (l : Dl) : Prop := l ≠ [] → ∃ b off, A = some ⟨b, off, none⟩ ∧ p ≠ b ∧ DRow w b off l
theorem Dq.dropLast {w : World} {p : Nat} {A : Option Addr} {l : Dl} (h : Dq w p A l) : Dq w p A l.dropLast := fun hl => by
  obtain ⟨b, off, e, hp, r⟩ := h (fun e => hl (by rw [e]; rfl))
  exact ⟨b, off, e, hp, r.dropLast⟩
theorem Dq.old {w W : World} {p : Nat} {A : Option Addr} {l : Dl} {bs : List (Nat × Obj)} (h : Dq w p A l) (hk : Kx (some p) w W bs) : Dq W p A l := fun hl => by
  obtain ⟨b, off, e, hp, r⟩ := h hl
  exact ⟨b, off, e, hp, r.old hk (fun e => hp (by injection e))⟩
theorem takeLast_any {p cap n : Nat} {A : Option Addr} {l : Dl} {v0 v1 v2 v3 : Int} (w : World) (hl : l.length = n) (h1 : 1 ≤ n) (hn : n ≤ 1024) (hc : n ≤ cap) (hm : cap ≤ 9223372036854775807) (hj : l.getLastD [] = [v0, v1, v2, v3]) (hr : Dq w p A l) (hp : w.heap[p]? = some (restO (.slice A n cap))) :
    Calls Tryd.prog 35 #[.pointer (some ⟨p, 0, none⟩)] w fun e w' => e = .returned (.tuple #[.agg #[.int .u32 v0, .int .u32 v1, .int .u32 v2, .int .u32 v3], .bool true]) ∧ Bx (some p) w w' ∧ w'.heap[p]? = some (restO (.slice A (n - 1) cap)) := by
  obtain ⟨b, off, rfl, hpb, hd⟩ := hr (fun e => by rw [e] at hl; simp at hl; omega)
  refine takeLast_some p b off n cap l w hp hl h1 hn hc hm hd hpb ?_
  rw [List.getLastD_eq_getLast?, List.getLast?_eq_getElem?, hl] at hj
  rw [List.getElem?_eq_getElem (by omega)] at hj ⊢
  rw [← hj]; rfl
theorem mcr_ok : ∀ (n i : Nat) (leaf : Ws) (l : Dl), Ok4 leaf → Oks l → Ok4 (mcr n i leaf l).1 := by
  intro n
  induction n using Nat.strongRecOn with
  | ind n ih =>
    intro i leaf l h hl
    by_cases h1 : n ≤ 1
    · rw [cr_one h1]; exact h
    · have h2 : 2 ≤ n := by omega
      have k1 := hf_lt h2
      have k2 := hf_pos n
      by_cases hp : l = []
      · subst hp
        rw [cr_none h2]; exact zero4_ok
      · by_cases hi : i < hf n
        · rw [cr_left h2 hp hi]
          exact pair_ok0 (ih (hf n) k1 _ _ _ h hl.dropLast) (hl.last hp)
        · rw [cr_right h2 hp hi]
          exact pair_ok0 (hl.last hp) (ih (n - hf n) (by omega) _ _ _ h hl.dropLast)
/-- What a call that uses up a rest gives. -/
def RestE (w : World) (p : Nat) (A : Option Addr) (cap : Nat) (x : Ws) (ok : Bool) (left : Nat) (e : Ending) (w' : World) : Prop :=
  e = .returned (.tuple #[ag x, .bool ok]) ∧ Bx (some p) w w' ∧ w'.heap[p]? = some (restO (.slice A left cap))
def RestAt (n : Nat) : Prop := ∀ (i p c cap : Nat) (A : Option Addr) (leaf : Ws) (l : Dl) (w : World), i < n → n ≤ 1024 → l.length = c → c ≤ 1024 → c ≤ cap → cap ≤ 9223372036854775807 → Ok4 leaf → Oks l → Dq w p A l → w.heap[p]? = some (restO (.slice A c cap)) → TabsB p w →
    Calls Tryd.prog 25 #[.pointer (some ⟨p, 0, none⟩), .int .i64 (n : Int), .int .i64 (i : Int), ag leaf] w (RestE w p A cap (mcr n i leaf l).1 (mcr n i leaf l).2.1 (mcr n i leaf l).2.2.length)
theorem Kx.tabs {p : Nat} {w W : World} {bs : List (Nat × Obj)} (hk : Kx (some p) w W bs) (h : TabsB p w) (hp : p < w.heap.size) : TabsB p W :=
  h.below (hk.be.to (by omega) (fun q e => by injection e with e; omega))
set_option maxRecDepth 100000 in
set_option maxHeartbeats 4000000 in
theorem rest_code : ∀ n, RestAt n := by
  intro n
  induction n using Nat.strongRecOn with
  | ind n ih =>
    intro i p c cap A leaf l w hi hn hl hc hcc hm ho hol hq hp ht
    obtain ⟨f0, f1, f2, f3, hf, _⟩ := ok4 ho
    have hlt : p < w.heap.size := (Array.getElem?_eq_some_iff.1 hp).1
    have hne : w.heap.size ≠ p := by omega
    by_cases h1 : n = 1
    · subst h1
      rw [cr_one (by omega), hf, hl]
      clear ih hq ht hol
      have HP := Lib.hid hp
      clear hp hl
      show Calls _ _ #[_, _, _, ag [f0, f1, f2, f3]] w (RestE w p A cap [f0, f1, f2, f3] true c)
      rw [ag4]
      go_enter Tryd.func25, Tryd.ntmps25
      go_wp2_with fail
      have HE := Lib.hid (((Kx.one HP.out (some p)).more (.cells #[.int .u32 f0, .int .u32 f1, .int .u32 f2, .int .u32 f3] 26)).more (.cells #[.int .u32 f0, .int .u32 f1, .int .u32 f2, .int .u32 f3] 26))
      exact bodyPost_ret (v := .tuple #[.agg #[.int .u32 f0, .int .u32 f1, .int .u32 f2, .int .u32 f3], .bool true]) (by simp [results, go_sem]) rfl ⟨rfl, HE.out.be, HE.out.at 0 rfl⟩
    · have h2 : 2 ≤ n := by omega
      have k1 := hf_lt h2
      have k2 := hf_pos n
      have i3 : ((n : Int) == 1) = false := by rw [beq_eq_false_iff_ne]; omega
      have i4 : (n == 1) = false := by rw [beq_eq_false_iff_ne]; omega
      have hmok := mcr_ok n i leaf l ho hol
      subst hf
      by_cases hl0 : l = []
      · subst hl0
        have hc0 : c = 0 := by simpa using hl.symm
        subst hc0
        rw [cr_none h2]
        have T := Lib.hid (fun w => takeLast_none p cap A w)
        have HP := Lib.hid hp
        have HK := Lib.hid (((Kx.one hp (some p)).add _ rfl (.cells #[.int .u32 f0, .int .u32 f1, .int .u32 f2, .int .u32 f3] 26 (0, 0))).add (w.heap.size + 1) (by simp) (.cells #[.int .u32 0, .int .u32 0, .int .u32 0, .int .u32 0] 26 (0, 0)))
        clear hp hl ih hq ht hol hmok ho
        show Calls _ _ #[_, _, _, ag [f0, f1, f2, f3]] w (RestE w p A cap [0, 0, 0, 0] false 0)
        rw [ag4]
        go_enter Tryd.func25, Tryd.ntmps25
        go_wp2_with fail
        refine (T.out _ (HK.out.at 0 rfl)).mono ?_
        rintro e w1 ⟨rfl, hb⟩
        have hs := hb.size
        simp at hs
        have HK1 := Lib.hid ((HK.out.after hb).more (.cells #[.int .u32 0, .int .u32 0, .int .u32 0, .int .u32 0] 26 (0, 0)))
        clear hb
        obtain ⟨a0, a1, a2, a3, d0, d1, d2, d3⟩ := cells4 (HK1.out.at 2 rfl)
        have HE := Lib.hid (HK1.out.put4 2 rfl (.inr (Nat.le_add_right _ _)) (.int .u32 0) (.int .u32 0) (.int .u32 0) (.int .u32 0))
        have HR := Lib.hid (row4 (HK1.out.at 2 rfl) (.int .u32 0) (.int .u32 0) (.int .u32 0) (.int .u32 0))
        go_wp2_with fail
        exact bodyPost_ret (v := .tuple #[.agg #[.int .u32 0, .int .u32 0, .int .u32 0, .int .u32 0], .bool false]) (by
          obtain ⟨k0, k1, k2, k3, _⟩ := cells4 HR.out
          simp [results, go_sem, k0, k1, k2, k3]) rfl ⟨rfl, HE.out.be, HE.out.at 0 rfl⟩
      · have hl1 : 1 ≤ c := by
          rw [← hl]
          exact List.length_pos_iff.2 hl0
        have hlo := hol.last hl0
        have hlo' := hlo
        obtain ⟨v0, v1, v2, v3, hlast, _⟩ := ok4 hlo'
        clear hlo'
        have t := fun w => takeLast_any (p := p) (A := A) (cap := cap) w hl hl1 hc hcc hm hlast
        have C := fun w => half_code n w h2 hn
        have T := Lib.hid t
        have HQ := Lib.hid hq
        have HT := Lib.hid ht
        by_cases hik : i < hf n
        · skip
          have wl := cr_left (leaf := [f0, f1, f2, f3]) h2 hl0 hik
          rw [wl] at hmok ⊢
          have hx := mcr_ok (hf n) i [f0, f1, f2, f3] l.dropLast ho hol.dropLast
          have c3 := fun w => ih (hf n) k1 i p (c - 1) cap A [f0, f1, f2, f3] l.dropLast w hik (by omega) (by rw [List.length_dropLast, hl]) (by omega) (by omega) hm ho hol.dropLast
          obtain ⟨CR, hCR⟩ : ∃ CR, mcr (hf n) i [f0, f1, f2, f3] l.dropLast = CR := ⟨_, rfl⟩
          rw [hCR] at hx c3 hmok ⊢
          obtain ⟨x, okb, left⟩ := CR
          have c4 := fun w ht => pair_code x (l.getLastD []) w hx hlo ht
          obtain ⟨x0, x1, x2, x3, rfl, _⟩ := ok4 hx
          rw [hlast] at c4 hmok ⊢
          simp only at hmok
          obtain ⟨z0, z1, z2, z3, hz, _⟩ := ok4 hmok
          show Calls _ _ #[_, _, _, ag [f0, f1, f2, f3]] w (RestE w p A cap (pair [x0, x1, x2, x3] [v0, v1, v2, v3]) okb left.length)
          rw [hz] at c4 ⊢
          rw [ag4, ag4, ag4] at c4
          rw [ag4]
          obtain ⟨k, hk⟩ : ∃ k, hf n = k := ⟨_, rfl⟩
          rw [hk] at C c3 k1 k2 hik
          have HC := Lib.hid C
          have C3 := Lib.hid c3
          have C4 := Lib.hid c4
          have i5 : k ≤ n := by omega
          have HK := Lib.hid (((Kx.one hp (some p)).add _ rfl (.cells #[.int .u32 f0, .int .u32 f1, .int .u32 f2, .int .u32 f3] 26 (0, 0))).add (w.heap.size + 1) (by simp) (.cells #[.int .u32 0, .int .u32 0, .int .u32 0, .int .u32 0] 26 (0, 0)))
          clear hp hl ih hq ht hol hmok ho C c3 c4 hx hCR hz hk wl hlast hl0 t
          go_enter Tryd.func25, Tryd.ntmps25
          go_wp2_with fail
          refine (T.out _ (HQ.out.old HK.out) (HK.out.at 0 rfl)).mono ?_
          rintro e w1 ⟨rfl, hb, hpp⟩
          have hs := hb.size
          simp at hs
          replace HK := Lib.hid ((HK.out.afterq 0 rfl (.inl rfl) hb hpp).add _ rfl (.cells #[.int .u32 v0, .int .u32 v1, .int .u32 v2, .int .u32 v3] 26 (0, 0)))
          clear hb hpp
          go_wp2_with fail
          refine (HC.out _).mono ?_
          rintro e w2 ⟨rfl, rfl⟩
          obtain ⟨a0, a1, a2, a3, d0, d1, d2, d3⟩ := cells4 (HK.out.at 1 rfl)
          go_wp2_with fail
          clear a0 a1 a2 a3 d0 d1 d2 d3
          refine (C3.out _ (HQ.out.dropLast.old HK.out) (HK.out.at 0 rfl) (HK.out.tabs HT.out hlt)).mono ?_
          rintro e w3 ⟨rfl, hb, hpp⟩
          have hs2 := hb.size
          simp at hs2
          replace HK := Lib.hid ((HK.out.afterq 0 rfl (.inl rfl) hb hpp).add _ rfl (.cells #[.int .u32 x0, .int .u32 x1, .int .u32 x2, .int .u32 x3] 26 (0, 0)))
          clear hb hpp
          obtain ⟨a0, a1, a2, a3, d0, d1, d2, d3⟩ := cells4 (HK.out.at 3 rfl)
          obtain ⟨b0, b1, b2, b3, e0, e1, e2, e3⟩ := cells4 (HK.out.at 4 rfl)
          rw [ag4]
          go_wp2_with fail
          clear a0 a1 a2 a3 d0 d1 d2 d3 b0 b1 b2 b3 e0 e1 e2 e3
          refine (C4.out _ (HK.out.tabs HT.out hlt).toTabs).mono ?_
          rintro e w4 ⟨rfl, hb⟩
          replace HK := Lib.hid (HK.out.after hb)
          clear hb
          obtain ⟨a0, a1, a2, a3, d0, d1, d2, d3⟩ := cells4 (HK.out.at 2 rfl)
          have HE := Lib.hid (HK.out.put4 2 rfl (.inr (Nat.le_add_right _ _)) (.int .u32 z0) (.int .u32 z1) (.int .u32 z2) (.int .u32 z3))
          have HR := Lib.hid (row4 (HK.out.at 2 rfl) (.int .u32 z0) (.int .u32 z1) (.int .u32 z2) (.int .u32 z3))
          go_wp2_with fail
          exact bodyPost_ret (v := .tuple #[.agg #[.int .u32 z0, .int .u32 z1, .int .u32 z2, .int .u32 z3], .bool okb]) (by
            obtain ⟨k0, k1, k2, k3, _⟩ := cells4 HR.out
            simp [results, go_sem, k0, k1, k2, k3]) rfl ⟨rfl, HE.out.be, HE.out.at 0 rfl⟩
        · skip
          have wl := cr_right (leaf := [f0, f1, f2, f3]) h2 hl0 hik
          rw [wl] at hmok ⊢
          have hx := mcr_ok (n - hf n) (i - hf n) [f0, f1, f2, f3] l.dropLast ho hol.dropLast
          have c3 := fun w => ih (n - hf n) (by omega) (i - hf n) p (c - 1) cap A [f0, f1, f2, f3] l.dropLast w (by omega) (by omega) (by rw [List.length_dropLast, hl]) (by omega) (by omega) hm ho hol.dropLast
          obtain ⟨CR, hCR⟩ : ∃ CR, mcr (n - hf n) (i - hf n) [f0, f1, f2, f3] l.dropLast = CR := ⟨_, rfl⟩
          rw [hCR] at hx c3 hmok ⊢
          obtain ⟨x, okb, left⟩ := CR
          have c4 := fun w ht => pair_code (l.getLastD []) x w hlo hx ht
          obtain ⟨x0, x1, x2, x3, rfl, _⟩ := ok4 hx
          rw [hlast] at c4 hmok ⊢
          simp only at hmok
          obtain ⟨z0, z1, z2, z3, hz, _⟩ := ok4 hmok
          show Calls _ _ #[_, _, _, ag [f0, f1, f2, f3]] w (RestE w p A cap (pair [v0, v1, v2, v3] [x0, x1, x2, x3]) okb left.length)
          rw [hz] at c4 ⊢
          rw [ag4, ag4, ag4] at c4
          rw [ag4]
          rw [show ((n - hf n : Nat) : Int) = (n : Int) - (hf n : Int) by omega, show ((i - hf n : Nat) : Int) = (i : Int) - (hf n : Int) by omega] at c3
          obtain ⟨k, hk⟩ : ∃ k, hf n = k := ⟨_, rfl⟩
          rw [hk] at C c3 k1 k2 hik
          have HC := Lib.hid C
          have C3 := Lib.hid c3
          have C4 := Lib.hid c4
          have i5 : k ≤ n := by omega
          have j0 : 0 ≤ (i : Int) - (k : Int) := by omega
          have j1 : 0 ≤ (n : Int) - (k : Int) := by omega
          have HK := Lib.hid (((Kx.one hp (some p)).add _ rfl (.cells #[.int .u32 f0, .int .u32 f1, .int .u32 f2, .int .u32 f3] 26 (0, 0))).add (w.heap.size + 1) (by simp) (.cells #[.int .u32 0, .int .u32 0, .int .u32 0, .int .u32 0] 26 (0, 0)))
          clear hp hl ih hq ht hol hmok ho C c3 c4 hx hCR hz hk wl hlast hl0 t
          go_enter Tryd.func25, Tryd.ntmps25
          go_wp2_with fail
          refine (T.out _ (HQ.out.old HK.out) (HK.out.at 0 rfl)).mono ?_
          rintro e w1 ⟨rfl, hb, hpp⟩
          have hs := hb.size
          simp at hs
          replace HK := Lib.hid ((HK.out.afterq 0 rfl (.inl rfl) hb hpp).add _ rfl (.cells #[.int .u32 v0, .int .u32 v1, .int .u32 v2, .int .u32 v3] 26 (0, 0)))
          clear hb hpp
          go_wp2_with fail
          refine (HC.out _).mono ?_
          rintro e w2 ⟨rfl, rfl⟩
          obtain ⟨a0, a1, a2, a3, d0, d1, d2, d3⟩ := cells4 (HK.out.at 1 rfl)
          go_wp2_with fail
          clear a0 a1 a2 a3 d0 d1 d2 d3
          refine (C3.out _ (HQ.out.dropLast.old HK.out) (HK.out.at 0 rfl) (HK.out.tabs HT.out hlt)).mono ?_
          rintro e w3 ⟨rfl, hb, hpp⟩
          have hs2 := hb.size
          simp at hs2
          replace HK := Lib.hid ((HK.out.afterq 0 rfl (.inl rfl) hb hpp).add _ rfl (.cells #[.int .u32 x0, .int .u32 x1, .int .u32 x2, .int .u32 x3] 26 (0, 0)))
          clear hb hpp
          obtain ⟨a0, a1, a2, a3, d0, d1, d2, d3⟩ := cells4 (HK.out.at 3 rfl)
          obtain ⟨b0, b1, b2, b3, e0, e1, e2, e3⟩ := cells4 (HK.out.at 4 rfl)
          rw [ag4]
          go_wp2_with fail
          clear a0 a1 a2 a3 d0 d1 d2 d3 b0 b1 b2 b3 e0 e1 e2 e3
          refine (C4.out _ (HK.out.tabs HT.out hlt).toTabs).mono ?_
          rintro e w4 ⟨rfl, hb⟩
          replace HK := Lib.hid (HK.out.after hb)
          clear hb
          obtain ⟨a0, a1, a2, a3, d0, d1, d2, d3⟩ := cells4 (HK.out.at 2 rfl)
          have HE := Lib.hid (HK.out.put4 2 rfl (.inr (Nat.le_add_right _ _)) (.int .u32 z0) (.int .u32 z1) (.int .u32 z2) (.int .u32 z3))
          have HR := Lib.hid (row4 (HK.out.at 2 rfl) (.int .u32 z0) (.int .u32 z1) (.int .u32 z2) (.int .u32 z3))
          go_wp2_with fail
          exact bodyPost_ret (v := .tuple #[.agg #[.int .u32 z0, .int .u32 z1, .int .u32 z2, .int .u32 z3], .bool okb]) (by
            obtain ⟨k0, k1, k2, k3, _⟩ := cells4 HR.out
            simp [results, go_sem, k0, k1, k2, k3]) rfl ⟨rfl, HE.out.be, HE.out.at 0 rfl⟩

end Go.Proofs.YtcjclbhkheogpaaDoor
