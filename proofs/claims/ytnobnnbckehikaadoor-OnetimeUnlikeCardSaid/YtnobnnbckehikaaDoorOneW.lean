/- The laws' arguments: digests, signatures, the struct of two messages with two signatures; the tables that the laws list; a world in which they hold what the program's text lays. -/
import Derived.Test.YtnobnnbckehikaaDoorOpn
import Derived.Test.YtnobnnbckehikaaDoorMerA
import Derived.Test.YtnobnnbckehikaaDoorTab
import Derived.Deep.DeepHandedRow
import Derived.Stop.LaidErr
import Derived.Deep.Slices
import Derived.ChangeSame
import Derived.ChangeOld
import Derived.Carry
namespace Go.Proofs.YtnobnnbckehikaaDoor
open Go.ChangeShapes Go.WideShapes Go.ChangeAt Go.RowKit
set_option linter.unusedVariables false

theorem own : ownKnob Tryd.prog.godebug = none := by kernel_rfl
theorem laidOut : laidOutB Tryd.prog = true := by kernel_rfl
theorem tTrn : (Tryd.prog.globals[1]?).map (·.type) = some 63 := by kernel_rfl
theorem tMrk : (Tryd.prog.globals[0]?).map (·.type) = some 24 := by kernel_rfl
theorem cTrn : Tryd.prog.cellsOf 63 = 4 := by kernel_rfl
theorem cI : Tryd.prog.cellsOf 3 = 1 := by kernel_rfl
theorem cU32 : Tryd.prog.cellsOf 22 = 1 := by kernel_rfl
theorem cDg : Tryd.prog.cellsOf 24 = 4 := by kernel_rfl
theorem cSl : Tryd.prog.cellsOf 33 = 1 := by kernel_rfl
theorem cAsk : Tryd.prog.cellsOf 44 = 10 := by kernel_rfl
theorem tabs_of {W : World} {l : List (String × DataW Unit)} (h : laidMet Tryd.prog (("seedcorn/digest.turns", Rows.laid_seedcorn_digest_turns) :: ("seedcorn/onetime.stepMark", Rows.laid_seedcorn_onetime_stepMark) :: l) W) : Tabs W := by
  have h2 := h.tail
  rw [trn_data] at h
  rw [mrk_data] at h2
  exact { trn := Lib.tabIs_of_head gTrn tTrn Tryd.underlying63 Tryd.underlying3 cI cTrn h
          mrk := Lib.tabIs_of_head gMrk tMrk Tryd.underlying24 Tryd.underlying22 cU32 cDg h2 }
def over (cs : Array Value) : Obj → Obj
  | .cells _ t frozen => .cells cs t frozen
  | o => o
/-- A world for the witness: the settled one, its tables as their initialisers lay them. -/
noncomputable def laidWorld (os : Os) : World :=
  { World.holding Tryd.prog os ⟨#[], #[], []⟩ with heap := ((World.holding Tryd.prog os ⟨#[], #[], []⟩).heap.modify 1 (over #[.int .i64 7, .int .i64 9, .int .i64 13, .int .i64 18])).modify 0 (over #[.int .u32 0, .int .u32 0, .int .u32 0, .int .u32 1]) }

section
variable {H : Type} {enc : TypeId × Value → H} {W : World} {base : Nat} {sp : Nat → Bool} {held : Bool}
set_option maxRecDepth 100000 in
theorem dg_list {cs : List Value} {d : DataW H} {p : List MemPlace} {fuel : Nat} (hn : cs.length = 4) (h : DataW.trod enc Tryd.prog W base sp held fuel 24 cs = some (d, p)) :
    ∃ x0 x1 x2 x3 : Int, cs = [.int .u32 x0, .int .u32 x1, .int .u32 x2, .int .u32 x3] ∧ Ok4 [x0, x1, x2, x3] := by
  have h' : DataW.Trod enc Tryd.prog W base sp held 24 (.agg cs.toArray) d p := ⟨fuel, by simpa [Value.cells] using h⟩
  obtain ⟨zs, _, _, hm, hw⟩ := words_of Tryd.underlying24 cDg (by simpa using hn) h'
  match cs, hn with
  | [y0, y1, y2, y3], _ =>
    have hm2 : [[y0], [y1], [y2], [y3]] = zs.map (fun z => [Value.int .u32 z]) := hm
    match zs, hm2 with
    | [x0, x1, x2, x3], hm2 =>
      simp only [List.map_cons, List.map_nil, List.cons.injEq, and_true] at hm2
      obtain ⟨rfl, rfl, rfl, rfl⟩ := hm2
      exact ⟨x0, x1, x2, x3, rfl, rfl, fun z hz => w32_wf (hw z hz)⟩
set_option maxRecDepth 100000 in
theorem open_dl {cs : List Value} {x : DataW H × List MemPlace} {fuel : Nat} (h : DataW.trod enc Tryd.prog W 0 (fun _ => true) true fuel 33 cs = some x) :
    ∃ (A : Option Addr) (n cap : Nat) (l : Dl), cs = [.slice A n cap] ∧ l.length = n ∧ n ≤ cap ∧ cap ≤ maxLen ∧ Dd W A l := by
  rcases Go.Deep.open_slice Tryd.underlying33 h with ⟨rfl, _⟩ | ⟨a, len, cap, m, n, D, Pl, rfl, hb, hl, hm, hmm, hx, hi⟩
  · exact ⟨none, 0, 0, [], rfl, rfl, Nat.le_refl _, Nat.zero_le _, Dd.nil _ _⟩
  · simp only [if_true] at hmm
    obtain ⟨f, hf⟩ := Go.Deep.choose_lt (α := Ws) (n := len) (p := fun i z => Ok4 z ∧ ∀ j v, z[j]? = some v → W.cell? ((a.add (i * 4)).add j) = some (.int .u32 v)) (fun i hil => by
      obtain ⟨cs', h1, h2⟩ := hi i (by omega)
      rw [cDg] at h1
      obtain ⟨_, hcl, hat⟩ := World.cells?_some h1
      obtain ⟨x0, x1, x2, x3, rfl, ho⟩ := dg_list hcl h2
      refine ⟨[x0, x1, x2, x3], ho, fun j v hj => ?_⟩
      have hj4 : j < 4 := (List.getElem?_eq_some_iff.1 hj).1
      rw [hat j hj4]
      match j, hj4, hj with
      | 0, _, hj | 1, _, hj | 2, _, hj | 3, _, hj => simp at hj; subst hj; rfl)
    refine ⟨some a, len, cap, (List.range len).map f, rfl, by simp, hl, hm, ?_, ?_⟩
    · intro d hd
      obtain ⟨i, hi', rfl⟩ := List.mem_map.1 hd
      exact (hf i (by simpa using hi')).1
    · intro hne
      have hlen : 0 < len := by
        rcases Nat.eq_zero_or_pos len with h0 | h0
        · subst h0; simp at hne
        · exact h0
      obtain ⟨h4, hc⟩ := hf 0 hlen
      obtain ⟨x0, x1, x2, x3, he, _⟩ := ok4 h4
      have hc0 := hc 0 x0 (by rw [he]; rfl)
      obtain ⟨b, off, spot⟩ := a
      have hspot : spot = none := by simpa [Addr.add] using World.cell?_spot hc0
      subst hspot
      refine ⟨b, off, rfl, ?_, ?_, ?_⟩
      · intro d hd
        obtain ⟨i, hi', rfl⟩ := List.mem_map.1 hd
        exact (hf i (by simpa using hi')).1
      · rcases Nat.lt_or_ge b W.heap.size with hb' | hb'
        · exact hb'
        · rw [Go.Deep.add_add, add_plain] at hc0
          simp [World.cell?, Array.getElem?_eq_none hb'] at hc0
      · intro j d hj i v hv
        have hjl : j < len := by have := (List.getElem?_eq_some_iff.1 hj).1; simpa using this
        have e : f j = d := by simpa [hjl] using hj
        subst e
        have := (hf j hjl).2 i v hv
        rw [Go.Deep.add_add, add_plain, ← Nat.add_assoc] at this
        exact this
set_option maxRecDepth 100000 in
theorem open_sl {b0 : Nat} {v : Value} {d : DataW H} {p : List MemPlace} (hv : Value.okWide Tryd.prog W .any b0 33 v) (h : DataW.Trod enc Tryd.prog W 0 (fun _ => true) true 33 v d p) :
    ∃ (A : Option Addr) (n cap : Nat) (l : Dl), v = .slice A n cap ∧ l.length = n ∧ n ≤ cap ∧ cap ≤ maxLen ∧ Dd W A l := by
  obtain ⟨a, len, cap, rfl⟩ := okWide_slice Tryd.underlying33 hv
  obtain ⟨fuel, hf⟩ := h
  obtain ⟨A, n, c, l, hcs, r⟩ := open_dl hf
  simp [Value.cells] at hcs
  obtain ⟨rfl, rfl, rfl⟩ := hcs
  exact ⟨_, _, _, l, rfl, r⟩
set_option maxRecDepth 100000 in
theorem open_dig {b : Nat} {v : Value} {d : DataW H} {p : List MemPlace} (hv : Value.okWide Tryd.prog W .any b 24 v) (h : DataW.Trod enc Tryd.prog W base sp held 24 v d p) :
    ∃ x0 x1 x2 x3 : Int, v = ag [x0, x1, x2, x3] ∧ Ok4 [x0, x1, x2, x3] := by
  obtain ⟨cs, rfl, hsz, _⟩ : ∃ cs, v = .agg cs ∧ cs.size = Tryd.prog.cellsOf 24 ∧ Row.okWide Tryd.prog W .any b 24 cs := by
    simpa [Value.okWide, Tryd.underlying24] using hv
  rw [cDg] at hsz
  obtain ⟨fuel, hf⟩ := h
  obtain ⟨x0, x1, x2, x3, e, o⟩ := dg_list (by simpa using hsz) (show DataW.trod enc Tryd.prog W base sp held fuel 24 cs.toList = some (d, p) from by simpa [Value.cells] using hf)
  refine ⟨x0, x1, x2, x3, ?_, o⟩
  have : cs = #[.int .u32 x0, .int .u32 x1, .int .u32 x2, .int .u32 x3] := Array.toList_inj.1 (by rw [e])
  subst this; rfl
set_option maxRecDepth 100000 in
set_option maxHeartbeats 1000000 in
theorem open_ask {b0 : Nat} {v : Value} {d : DataW H} {p : List MemPlace} (hv : Value.okWide Tryd.prog W .any b0 44 v) (h : DataW.Trod enc Tryd.prog W 0 (fun _ => true) true 44 v d p) :
    ∃ (r0 r1 r2 r3 f0 f1 f2 f3 : Int) (A : Option Addr) (n cap : Nat) (l : Dl) (A' : Option Addr) (n' cap' : Nat) (l' : Dl), v = .agg #[.int .u32 r0, .int .u32 r1, .int .u32 r2, .int .u32 r3, .int .u32 f0, .int .u32 f1, .int .u32 f2, .int .u32 f3, .slice A n cap, .slice A' n' cap'] ∧
      Ok4 [r0, r1, r2, r3] ∧ Ok4 [f0, f1, f2, f3] ∧ (l.length = n ∧ n ≤ cap ∧ cap ≤ maxLen ∧ Dd W A l) ∧ (l'.length = n' ∧ n' ≤ cap' ∧ cap' ≤ maxLen ∧ Dd W A' l') := by
  obtain ⟨cs, rfl, hsz⟩ := okWide_struct Tryd.underlying44 hv
  rw [cAsk] at hsz
  obtain ⟨ls⟩ := cs
  match ls, hsz with
  | [c0, c1, c2, c3, c4, c5, c6, c7, c8, c9], _ =>
    obtain ⟨fuel, hf⟩ := h
    obtain ⟨xs, n, _, _, _, hlen, hg⟩ := DataW.trod_struct Tryd.underlying44 hf
    have hxl : xs.length = 4 := hlen
    match xs, hxl with
    | [(d0, p0), (d1, p1), (d2, p2), (d3, p3)], _ =>
      have g0 : DataW.trod enc Tryd.prog W 0 (fun _ => true) true n 24 (([c0, c1, c2, c3, c4, c5, c6, c7, c8, c9].drop 0).take (Tryd.prog.cellsOf 24)) = some (d0, p0) := hg 0 _ rfl
      have g1 : DataW.trod enc Tryd.prog W 0 (fun _ => true) true n 24 (([c0, c1, c2, c3, c4, c5, c6, c7, c8, c9].drop 4).take (Tryd.prog.cellsOf 24)) = some (d1, p1) := hg 1 _ rfl
      have g2 : DataW.trod enc Tryd.prog W 0 (fun _ => true) true n 33 (([c0, c1, c2, c3, c4, c5, c6, c7, c8, c9].drop 8).take (Tryd.prog.cellsOf 33)) = some (d2, p2) := hg 2 _ rfl
      have g3 : DataW.trod enc Tryd.prog W 0 (fun _ => true) true n 33 (([c0, c1, c2, c3, c4, c5, c6, c7, c8, c9].drop 9).take (Tryd.prog.cellsOf 33)) = some (d3, p3) := hg 3 _ rfl
      rw [cDg] at g0 g1
      rw [cSl] at g2 g3
      have g0 : DataW.trod enc Tryd.prog W 0 (fun _ => true) true n 24 [c0, c1, c2, c3] = some (d0, p0) := g0
      have g1 : DataW.trod enc Tryd.prog W 0 (fun _ => true) true n 24 [c4, c5, c6, c7] = some (d1, p1) := g1
      have g2 : DataW.trod enc Tryd.prog W 0 (fun _ => true) true n 33 [c8] = some (d2, p2) := g2
      have g3 : DataW.trod enc Tryd.prog W 0 (fun _ => true) true n 33 [c9] = some (d3, p3) := g3
      obtain ⟨r0, r1, r2, r3, e0, o0⟩ := dg_list rfl g0
      obtain ⟨f0, f1, f2, f3, e1, o1⟩ := dg_list rfl g1
      obtain ⟨A, m, cap, l, e2, r⟩ := open_dl g2
      obtain ⟨A', m', cap', l', e3, r'⟩ := open_dl g3
      simp only [List.cons.injEq, and_true] at e0 e1 e2 e3
      obtain ⟨rfl, rfl, rfl, rfl⟩ := e0
      obtain ⟨rfl, rfl, rfl, rfl⟩ := e1
      subst e2 e3
      exact ⟨r0, r1, r2, r3, f0, f1, f2, f3, A, m, cap, l, A', m', cap', l', rfl, o0, o1, r, r'⟩
end
end Go.Proofs.YtnobnnbckehikaaDoor
