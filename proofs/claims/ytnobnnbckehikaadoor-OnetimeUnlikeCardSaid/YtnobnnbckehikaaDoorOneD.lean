/- The public key of ends: the contract of onetime's publicOf. -/
import Derived.Test.YtnobnnbckehikaaDoorOneA
import Derived.Laws.IdiomCopy
set_option linter.unusedVariables false
namespace Go.Proofs.YtnobnnbckehikaaDoor
open Go.RowKit

theorem infoA : (Tryd.prog.info? 48).map (·.size) = some 140 := by kernel_rfl
theorem infoD4 : (Tryd.prog.info? 24).map (·.size) = some 4 := by kernel_rfl
set_option maxRecDepth 100000 in
theorem idx35 {l : Dl} (ho : Oks l) (hl : l.length = 35) {j : Nat} {x0 x1 x2 x3 : Int} (hj : l[j]? = some [x0, x1, x2, x3]) (w : World) :
    (Instr.index 48 (.agg (mcs l).toArray) (.int .i64 (j : Int))).run Tryd.prog w = .ok (.agg #[.int .u32 x0, .int .u32 x1, .int .u32 x2, .int .u32 x3]) w := by
  have hj35 : j < 35 := by rw [← hl]; exact (List.getElem?_eq_some_iff.1 hj).1
  have hin : 0 ≤ (j : Int) ∧ (j : Int) < ((35 : Nat) : Int) := by omega
  have hsz : ∀ w : World, (sizeOf 24).run Tryd.prog w = .ok 4 w := by
    intro w
    cases hq : Tryd.prog.info? 24 with
    | none => have := infoD4; simp [hq] at this
    | some i => have := infoD4; simp [hq] at this; simp [sizeOf, typeInfo, hq, this]
  have hag : ∀ w : World, (isAgg 24).run Tryd.prog w = .ok true w := by
    intro w
    unfold isAgg
    rw [Sem.run_bind, run_underlying Tryd.underlying24 w]
    rfl
  have hex : (mcs l).toArray.extract (j * 4) (j * 4 + 4) = #[.int .u32 x0, .int .u32 x1, .int .u32 x2, .int .u32 x3] := by
    have hlen := cs_length ho
    have c := fun i v h => cs_at ho j _ hj i v h
    have c0 := c 0 x0 rfl
    have c1 := c 1 x1 rfl
    have c2 := c 2 x2 rfl
    have c3 := c 3 x3 rfl
    apply Array.ext_getElem?
    intro i
    rw [Array.getElem?_extract]
    simp only [List.size_toArray, hlen, hl]
    rw [show min (j * 4 + 4) (35 * 4) - j * 4 = 4 by omega]
    match i with
    | 0 => simpa using c0
    | 1 => simpa using c1
    | 2 => simpa using c2
    | 3 => simpa using c3
    | i + 4 =>
      simp
      intro h
      omega
  simp only [Instr.index, asIntOf, Sem.run_bind, Sem.run_pure, Result.andThen_ok, run_underlying Tryd.underlying48]
  rw [if_pos hin]
  simp only [Sem.run_bind, hsz, Result.andThen_ok, part, hag, if_true, Sem.run_pure]
  rw [show (j : Int).toNat * 4 = j * 4 by omega, hex]
theorem Kx.first {p : Option Nat} {w W : World} {bs : List (Nat × Obj)} (h : Kx p w W bs) (n : Nat) : Kx p w W (bs.take n) :=
  ⟨fun x hx => h.all x (List.mem_of_mem_take hx), by rw [List.map_take]; exact List.Sublist.nodup (List.take_sublist _ _) h.nd, h.be⟩
def Ko3 (w W : World) (cs : Array Value) (k : Ws) : Prop := Kx none w W [(w.heap.size, .cells cs 48 (0, 0)), (w.heap.size + 1, .cells #[.int .u32 0, .int .u32 0, .int .u32 0, .int .u32 0] 24 (0, 0)), (w.heap.size + 1 + 1, .cells (k.map (Value.int .u32)).toArray 24 (0, 0))]
set_option maxRecDepth 100000 in
set_option maxHeartbeats 2000000 in
theorem publicOf_code (l : Dl) (w : World) (ho : Oks l) (hl : l.length = 35) (ht : Tabs w) :
    Calls Tryd.prog 30 #[.agg (mcs l).toArray] w fun e w' => e = .returned (ag (pof l)) ∧ Below w.heap.size w w' := by
  obtain ⟨cs, hcs⟩ : ∃ cs, (mcs l).toArray = cs := ⟨_, rfl⟩
  have hix := fun (j : Nat) (x0 x1 x2 x3 : Int) (hj : l[j]? = some [x0, x1, x2, x3]) => idx35 ho hl hj
  rw [hcs] at hix ⊢
  have hsz : (Tryd.prog.info? 48).map (·.size) = some cs.size := by
    rw [infoA, ← hcs, List.size_toArray, cs_length ho, hl]
  have HIX := Lib.hid hix
  have HT := Lib.hid ht
  have HO := Lib.hid ho
  have HL := Lib.hid hl
  have HS := Lib.hid hsz
  obtain ⟨f, hf⟩ : ∃ f, ag (pof l) = f := ⟨_, rfl⟩
  rw [hf]
  have HF := Lib.hid hf
  have HK0 : Hid (Ko3 w (((w.alloc (.cells cs 48)).alloc (.cells #[.int .u32 0, .int .u32 0, .int .u32 0, .int .u32 0] 24)).alloc (.cells #[.int .u32 35, .int .u32 0, .int .u32 0, .int .u32 0] 24)) cs [35, 0, 0, 0]) :=
    Lib.hid ((((Kx.nil none w).more (.cells cs 48 (0, 0))).add (w.heap.size + 1) (by simp) (.cells #[.int .u32 0, .int .u32 0, .int .u32 0, .int .u32 0] 24 (0, 0))).add (w.heap.size + 1 + 1) (by simp) (.cells #[.int .u32 35, .int .u32 0, .int .u32 0, .int .u32 0] 24 (0, 0)))
  clear hix ht ho hl hcs hf hsz
  go_enter Tryd.func30, Tryd.ntmps30
  go_wp2_with fail
  refine wp_load_row 48 _ rfl w.heap.size rfl 48 cs (0, 0) _ (HK0.out.at 0 rfl) Tryd.underlying48 rfl HS.out ?_
  go_wp2_with fail
  go_loopw [8] (fun v wr => ∃ (j : Nat) (y0 y1 y2 y3 : Int), j ≤ 35 ∧ v = .int .i64 (j : Int) ∧ Hid (pofs [35, 0, 0, 0] (l.take j) = [y0, y1, y2, y3]) ∧ Hid (Ko3 w wr cs [y0, y1, y2, y3])) (fun v _ => 35 - (intOf v).toNat)
  case atStart => exact ⟨0, 35, 0, 0, 0, Nat.zero_le _, rfl, rfl, HK0⟩
  case round =>
    obtain ⟨j, y0, y1, y2, y3, hj, rfl, HY, HK⟩ := hrel
    by_cases hlt : j < 35
    · have i0 : (0 : Int) ≤ (j : Int) := by omega
      have i1 : (j : Int) < 35 := by omega
      have hg := List.getElem?_eq_getElem (l := l) (i := j) (by rw [HL.out]; exact hlt)
      have oe := HO.out _ (List.getElem_mem (l := l) (n := j) (by rw [HL.out]; exact hlt))
      obtain ⟨e0, e1, e2, e3, ee, _⟩ := ok4 oe
      rw [ee] at hg oe
      have hX := HIX.out j e0 e1 e2 e3 hg
      have oy : Ok4 (pofs [35, 0, 0, 0] (l.take j)) := pofs_ok _ k35_ok (HO.out.take j)
      have oz : Ok4 (pofs [35, 0, 0, 0] (l.take (j + 1))) := pofs_ok _ k35_ok (HO.out.take (j + 1))
      have e : pofs [35, 0, 0, 0] (l.take (j + 1)) = pair (pofs [35, 0, 0, 0] (l.take j)) [e0, e1, e2, e3] := by
        rw [List.take_add_one, hg, Option.toList_some, pofs_snoc]
      obtain ⟨z0, z1, z2, z3, ez, _⟩ := ok4 oz
      have HZ : Hid (pofs [35, 0, 0, 0] (l.take (j + 1)) = [z0, z1, z2, z3]) := Lib.hid ez
      rw [HY.out] at oy e
      have c := fun w ht => pair_code [y0, y1, y2, y3] [e0, e1, e2, e3] w oy oe ht
      rw [← e, ez, ag4, ag4, ag4] at c
      have C := Lib.hid c
      clear c e ez oy oz ee oe hg
      have HK1 := Lib.hid (HK.out.more (.cells #[.int .u32 e0, .int .u32 e1, .int .u32 e2, .int .u32 e3] 24 (0, 0)))
      obtain ⟨a0, a1, a2, a3, _⟩ := cells4 (HK1.out.at 2 rfl)
      go_wp2_with fail
      refine (C.out _ (HT.out.oldn HK1.out)).mono ?_
      rintro e w1 ⟨rfl, hb⟩
      replace HK1 := Lib.hid (HK1.out.after hb)
      clear hb a0 a1 a2 a3
      obtain ⟨a0, a1, a2, a3, d0, d1, d2, d3⟩ := cells4 (HK1.out.at 2 rfl)
      have HK2 := Lib.hid (HK1.out.put4 2 rfl (.inr (by omega)) (.int .u32 z0) (.int .u32 z1) (.int .u32 z2) (.int .u32 z3))
      have HK3 : Hid (Ko3 w ((((w1.setCell ⟨w.heap.size + 1 + 1, 0, none⟩ (.int .u32 z0)).setCell ⟨w.heap.size + 1 + 1, 1, none⟩ (.int .u32 z1)).setCell ⟨w.heap.size + 1 + 1, 2, none⟩ (.int .u32 z2)).setCell ⟨w.heap.size + 1 + 1, 3, none⟩ (.int .u32 z3)) cs [z0, z1, z2, z3]) := Lib.hid (HK2.out.first 3)
      clear HK1 HK2
      go_wp2_with fail
      go_roundw
      case rel => exact ⟨j + 1, z0, z1, z2, z3, by omega, by go_num, HZ, HK3⟩
      case measure => simp [intOf]; omega
    · obtain rfl : j = 35 := by omega
      have hy := HY.out
      rw [List.take_of_length_le (by rw [HL.out]; omega)] at hy
      have HF2 : Hid (f = .agg #[.int .u32 y0, .int .u32 y1, .int .u32 y2, .int .u32 y3]) := Lib.hid (by rw [← HF.out, pof, hy, ag4])
      clear hy
      obtain ⟨a0, a1, a2, a3, _⟩ := cells4 (HK.out.at 2 rfl)
      obtain ⟨b0, b1, b2, b3, d0, d1, d2, d3⟩ := cells4 (HK.out.at 1 rfl)
      have HR := Lib.hid (row4 (HK.out.at 1 rfl) (.int .u32 y0) (.int .u32 y1) (.int .u32 y2) (.int .u32 y3))
      have HE := Lib.hid (HK.out.put4 1 rfl (.inr (by simp)) (.int .u32 y0) (.int .u32 y1) (.int .u32 y2) (.int .u32 y3)).be.plain
      go_wp2_with fail
      exact bodyPost_ret (v := .agg #[.int .u32 y0, .int .u32 y1, .int .u32 y2, .int .u32 y3]) (by
        obtain ⟨k0, k1, k2, k3, _⟩ := cells4 HR.out
        simp [results, go_sem, k0, k1, k2, k3]) rfl ⟨by rw [HF2.out], HE.out⟩
end Go.Proofs.YtnobnnbckehikaaDoor
