/- Layer 9 (machine), the program's code: endUnless, place; slices.Clone of words. -/
import Derived.Test.YtgojpflkhnaedaaDoorG9b
import Derived.Test.YtgojpflkhnaedaaDoorG9c
import Derived.StillTailTactics
import Derived.Deep.AppendLies
import Derived.Deep.DeepCutAuto
set_option linter.unusedVariables false
namespace Go.Proofs.YtgojpflkhnaedaaDoor
open Go.RowKit

theorem results_row_tmp {P : Program} {fn : Func} {p q : Tmp} {ty : TypeId} (h : fn.results = #[.cell p ty, .tmp q]) (tmps : Array Value) (w : World) (g : Nat) (t : TypeId) (cs : Array Value) (fr : Nat × Nat) (d : TypeDesc) (v : Value)
    (hp : tmps.getD p undef = .pointer (some ⟨g, 0, none⟩)) (hq : tmps.getD q undef = v) (hg : w.heap[g]? = some (.cells cs t fr))
    (hu : P.underlying ty = some d) (hd : (match d with | .struct _ | .array _ _ => true | _ => false) = true) (hi : (P.info? ty).map (·.size) = some cs.size) :
    (results fn tmps).run P w = .ok (.tuple #[.agg cs, v]) w := by
  have hp' : tmps[p]?.getD undef = .pointer (some ⟨g, 0, none⟩) := by simpa using hp
  have hq' : tmps[q]?.getD undef = v := by simpa using hq
  simp [results, h, hp', hq', asAddr, run_loadVar_row w g t ty cs fr d hg hu hd hi]
theorem rd_w32s {w : World} {A : Option Addr} {n : Nat} {l : List Int} (h : Rd w A n l) : W32s l := fun z hz => by
  obtain ⟨i, hi⟩ := List.getElem?_of_mem hz
  have := h.2.2 i
  rwa [List.getD_eq_getElem?_getD, hi] at this
theorem infoI : (Tryd.prog.info? 40).map (·.size) = some 4 := by kernel_rfl
theorem infoI2 {cs : Array Value} (h : cs.size = 4) : (Tryd.prog.info? 40).map (·.size) = some cs.size := by rw [h]; exact infoI
set_option maxRecDepth 100000 in
set_option maxHeartbeats 400000 in
theorem unless_yes (x : Int) (w : World) :
    Calls Tryd.prog 39 #[.bool true, .int .i64 x] w fun e w' => e = .returned (.int .i64 0) ∧ w' = w := by
  go_enter Tryd.func39, Tryd.ntmps39
  go_wp2
  go_ret
  exact ⟨rfl, rfl⟩
set_option maxRecDepth 100000 in
set_option maxHeartbeats 400000 in
theorem unless_no (x : Int) (w : World) :
    Calls Tryd.prog 39 #[.bool false, .int .i64 x] w fun e w' => e = .returned (.int .i64 x) ∧ w' = w := by
  go_enter Tryd.func39, Tryd.ntmps39
  go_wp2
  go_ret
  exact ⟨rfl, rfl⟩
set_option maxRecDepth 100000 in
set_option maxHeartbeats 2000000 in
theorem place9 (pc : Int) (g : Nat → Int) (A : Option Addr) (n c : Nat) (rd : Int) (out : ByteArray) (st en : Int) {o : Int} {a b : Nat} {cc : Int} (M : Option Addr) (m k : Nat) (t : Int) (r : Bool) (w : World) (hb : b < 16) (hcc : 0 ≤ cc ∧ cc ≤ 65535) (hm : m ≤ 1073741824) (ht : wat (g b) cc = t) (hr : decide (t < (m : Int)) = r) :
    Calls Tryd.prog 49 #[.agg (stc pc g (.slice A n c) rd out st en), .agg #[.int .i64 o, .int .i64 (a : Int), .int .i64 (b : Int), .int .i64 cc], .slice M m k] w fun e w' => e = .returned (.tuple #[.int .u32 t, .bool r]) ∧ Below w.heap.size w w' := by
  have hwr := wat_range (g b) cc
  rw [ht] at hwr
  have m0 : cc % 4294967296 = cc := by omega
  have m1 : (g b + cc) % 4294967296 = t := ht
  have m2 : t % 18446744073709551616 = t := by omega
  have m3 : (m : Int) % 18446744073709551616 = (m : Int) := by omega
  have e1 : IntKind.u32.wrap (g b + IntKind.u32.wrap cc) = t := by rw [IntKind.wrap_u32, IntKind.wrap_u32, m0]; exact m1
  subst hr
  have hk := ((Kx.nil none w).more (.cells (stc pc g (.slice A n c) rd out st en) 30 (0, 0))).add (w.heap.size + 1) (by simp) (.cells #[.int .i64 o, .int .i64 (a : Int), .int .i64 (b : Int), .int .i64 cc] 40 (0, 0))
  obtain ⟨W0, hW0⟩ : ∃ W, (w.alloc (.cells (stc pc g (.slice A n c) rd out st en) 30 (0, 0))).alloc (.cells #[.int .i64 o, .int .i64 (a : Int), .int .i64 (b : Int), .int .i64 cc] 40 (0, 0)) = W := ⟨_, rfl⟩
  rw [hW0] at hk
  have y2 := row_cell (hk.at 1 rfl) 2 (v := .int .i64 (b : Int)) rfl
  have y3 := row_cell (hk.at 1 rfl) 3 (v := .int .i64 cc) rfl
  have zb := row_cell (hk.at 0 rfl) (1 + b) (stc_get pc g (.slice A n c) rd out st en b hb)
  have b0 : (0 : Int) ≤ (b : Int) := by omega
  have b1 : (b : Int) < 16 := by omega
  have HK := Lib.hid hk
  clear hk ht
  go_enter Tryd.func49, Tryd.ntmps49
  go_upto_region 1 with fail
  refine wp_region_still_lit (by kernel_rfl) (by kernel_rfl) ?_
  repeat still_step
  refine wpStill_nil ?_
  go_wp2_with fail
  go_ret2
  exact ⟨rfl, HK.out.drew.be.plain⟩
set_option maxRecDepth 100000 in
set_option maxHeartbeats 2000000 in
theorem clone9 {A : Option Addr} {n c : Nat} {l : List Int} (w : World) (hr : Rd w A n l) (hn : n ≤ 1073741824) (n0 : 0 < n) :
    Calls Tryd.prog 50 #[.slice A n c] w fun e w' => ∃ q cap, e = .returned (.slice (some ⟨q, 0, none⟩) n cap) ∧ w.heap.size ≤ q ∧ ∃ cur, w'.heap[q]? = some (.cells cur 27 (0, 0)) ∧ n ≤ cap ∧ cap ≤ maxLen ∧ cur.toList.take n = l.map (Value.int .u32) ∧ Below w.heap.size w w' := by
  have hl := hr.1
  obtain ⟨bk, off, rfl, _⟩ := rd_news n0 hr
  obtain ⟨z0, hz, hz0, hz1, hz2⟩ := info_parts infoU32
  have HR := Lib.hid hr
  have q22 : ∀ (w : World) (a : Option Addr) (n c n' c' : Nat), (binOp .eql 22 (.slice a n c) (.slice none n' c')).run Tryd.prog w = .ok (.bool a.isNone) w := fun w a n c n' c' => Lib.run_eql_slice_nil w _ _ a n c n' c' Tryd.underlying22
  clear hr
  go_enter Tryd.func50, Tryd.ntmps50
  go_upto_region 3 with fail
  go_wp2_with (at_builtin; (refine wpList_append_lies _ rfl _ _ _ rfl w.heap.size 27 z0 _ 1 4 Tryd.underlying22 hz hz0 hz1 hz2 rfl (by omega) _ 0 [] rfl (World.ownsRow_made w #[] 0 (Nat.le_refl _) (by simp) rfl) ⟨bk, off, none⟩ n c (l.map (Value.int .u32)) rfl (by simp [hl]) (rd_new n0 (HR.out.below ((Below.refl _ _).alloc (Nat.le_refl _) _))) (u32_cell _) n0 ?c3 ?c4 ?c5 _ rfl ?_))
  case c3 => unfold maxLen; omega
  case c4 => omega
  case c5 => simp
  intro q1 cap1 w5 hown hgrow hat hlt
  have hb : Below w.heap.size w w5 := ((Below.refl _ w).alloc (Nat.le_refl _) _).grown hgrow (by simp) (by intro k hk; simp [Value.ownBlock] at hk; omega)
  have hg1 := (hown.lt q1 rfl).1
  rcases hown.2 with ⟨h0, _⟩ | ⟨g', cap', cur, h1, _, hh, hc, hm, hs, ht⟩
  · cases h0
  · injection h1 with h1 h2 h3
    injection h1 with h1
    injection h1 with h1
    subst h1 h3
    have HX := Lib.hid (show w5.heap[q1]? = some (.cells cur 27 (0, 0)) ∧ n ≤ cap1 ∧ cap1 ≤ maxLen ∧ cur.toList.take n = l.map (Value.int .u32) ∧ Below w.heap.size w w5 from ⟨hh, hc, hm, by rw [← ht, Nat.mul_one], hb⟩)
    clear hh hc hm hs ht hb hgrow hat
    go_wp2_with fail
    go_ret
    exact ⟨q1, cap1, rfl, hg1, cur, HX.out⟩
end Go.Proofs.YtgojpflkhnaedaaDoor
