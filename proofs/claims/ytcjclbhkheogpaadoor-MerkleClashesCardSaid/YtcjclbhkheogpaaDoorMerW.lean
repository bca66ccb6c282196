/- The laws' arguments: slices of digests, structs that hold them; the table that the laws list; a world in which it holds what the program's text lays. -/
import Derived.Test.YtcjclbhkheogpaaDoorOpn
import Derived.Test.YtcjclbhkheogpaaDoorMerA
import Derived.Test.YtcjclbhkheogpaaDoorTab
import Derived.Deep.DeepHandedRow
import Derived.Stop.LaidErr
import Derived.Deep.Slices
import Derived.ChangeSame
import Derived.ChangeOld
import Derived.Carry
namespace Go.Proofs.YtcjclbhkheogpaaDoor
open Go.ChangeShapes Go.WideShapes Go.ChangeAt Go.RowKit
set_option linter.unusedVariables false

theorem own : ownKnob Tryd.prog.godebug = none := by kernel_rfl
theorem laidOut : laidOutB Tryd.prog = true := by kernel_rfl
theorem tTrn : (Tryd.prog.globals[0]?).map (·.type) = some 67 := by kernel_rfl
theorem cTrn : Tryd.prog.cellsOf 67 = 4 := by kernel_rfl
theorem cI : Tryd.prog.cellsOf 3 = 1 := by kernel_rfl
theorem cDg : Tryd.prog.cellsOf 26 = 4 := by kernel_rfl
theorem cSl : Tryd.prog.cellsOf 22 = 1 := by kernel_rfl
theorem tabs_of {W : World} {l : List (String × DataW Unit)} (h : laidMet Tryd.prog (("seedcorn/digest.turns", Rows.laid_seedcorn_digest_turns) :: l) W) : Tabs W := by
  rw [trn_data] at h
  exact { trn := Lib.tabIs_of_head gTrn tTrn Tryd.underlying67 Tryd.underlying3 cI cTrn h }
def over (cs : Array Value) : Obj → Obj
  | .cells _ t frozen => .cells cs t frozen
  | o => o
/-- A world for the witness: the settled one, its table as its initialiser lays it. -/
noncomputable def laidWorld (os : Os) : World :=
  { World.holding Tryd.prog os ⟨#[], #[], []⟩ with heap := (World.holding Tryd.prog os ⟨#[], #[], []⟩).heap.modify 0 (over #[.int .i64 7, .int .i64 9, .int .i64 13, .int .i64 18]) }

section
variable {H : Type} {enc : TypeId × Value → H} {W : World} {base : Nat} {sp : Nat → Bool} {held : Bool}
set_option maxRecDepth 100000 in
theorem dg_list {cs : List Value} {d : DataW H} {p : List MemPlace} {fuel : Nat} (hn : cs.length = 4) (h : DataW.trod enc Tryd.prog W base sp held fuel 26 cs = some (d, p)) :
    ∃ x0 x1 x2 x3 : Int, cs = [.int .u32 x0, .int .u32 x1, .int .u32 x2, .int .u32 x3] ∧ Ok4 [x0, x1, x2, x3] := by
  have h' : DataW.Trod enc Tryd.prog W base sp held 26 (.agg cs.toArray) d p := ⟨fuel, by simpa [Value.cells] using h⟩
  obtain ⟨zs, _, _, hm, hw⟩ := words_of Tryd.underlying26 cDg (by simpa using hn) h'
  match cs, hn with
  | [y0, y1, y2, y3], _ =>
    have hm2 : [[y0], [y1], [y2], [y3]] = zs.map (fun z => [Value.int .u32 z]) := hm
    match zs, hm2 with
    | [x0, x1, x2, x3], hm2 =>
      simp only [List.map_cons, List.map_nil, List.cons.injEq, and_true] at hm2
      obtain ⟨rfl, rfl, rfl, rfl⟩ := hm2
      exact ⟨x0, x1, x2, x3, rfl, rfl, fun z hz => w32_wf (hw z hz)⟩
set_option maxRecDepth 100000 in
theorem open_dl {cs : List Value} {x : DataW H × List MemPlace} {fuel : Nat} (h : DataW.trod enc Tryd.prog W 0 (fun _ => true) true fuel 22 cs = some x) :
    ∃ (A : Option Addr) (n cap : Nat) (l : Dl), cs = [.slice A n cap] ∧ l.length = n ∧ n ≤ cap ∧ cap ≤ maxLen ∧ Dd W A l := by
  rcases Go.Deep.open_slice Tryd.underlying22 h with ⟨rfl, _⟩ | ⟨a, len, cap, m, n, D, Pl, rfl, hb, hl, hm, hmm, hx, hi⟩
  · exact ⟨none, 0, 0, [], rfl, rfl, Nat.le_refl _, Nat.zero_le _, Dd.nil _ _⟩
  · simp only [if_true] at hmm
    obtain ⟨f, hf⟩ := Go.Deep.choose_lt (α := Ws) (n := len) (p := fun i z => Ok4 z ∧ ∀ j v, z[j]? = some v → W.cell? ((a.add (i * 4)).add j) = some (.int .u32 v)) (fun i hil => by
      obtain ⟨cs', h1, h2⟩ := hi i (by omega)
      rw [cDg] at h1
      obtain ⟨_, hcl, hat⟩ := World.cells?_some h1
      obtain ⟨x0, x1, x2, x3, rfl, ho⟩ := dg_list hcl h2
      refine ⟨[x0, x1, x2, x3], ho, fun j v hj => ?_⟩
      have hj4 : j < 4 := (List.getElem?_eq_some_iff.1 hj).1
      rw [hat j hj4]
      match j, hj4, hj with
      | 0, _, hj | 1, _, hj | 2, _, hj | 3, _, hj => simp at hj; subst hj; rfl)
    refine ⟨some a, len, cap, (List.range len).map f, rfl, by simp, hl, hm, ?_, ?_⟩
    · intro d hd
      obtain ⟨i, hi', rfl⟩ := List.mem_map.1 hd
      exact (hf i (by simpa using hi')).1
    · intro hne
      have hlen : 0 < len := by
        rcases Nat.eq_zero_or_pos len with h0 | h0
        · subst h0; simp at hne
        · exact h0
      obtain ⟨h4, hc⟩ := hf 0 hlen
      obtain ⟨x0, x1, x2, x3, he, _⟩ := ok4 h4
      have hc0 := hc 0 x0 (by rw [he]; rfl)
      obtain ⟨b, off, spot⟩ := a
      have hspot : spot = none := by simpa [Addr.add] using World.cell?_spot hc0
      subst hspot
      refine ⟨b, off, rfl, ?_, ?_, ?_⟩
      · intro d hd
        obtain ⟨i, hi', rfl⟩ := List.mem_map.1 hd
        exact (hf i (by simpa using hi')).1
      · rcases Nat.lt_or_ge b W.heap.size with hb' | hb'
        · exact hb'
        · rw [Go.Deep.add_add, add_plain] at hc0
          simp [World.cell?, Array.getElem?_eq_none hb'] at hc0
      · intro j d hj i v hv
        have hjl : j < len := by have := (List.getElem?_eq_some_iff.1 hj).1; simpa using this
        have e : f j = d := by simpa [hjl] using hj
        subst e
        have := (hf j hjl).2 i v hv
        rw [Go.Deep.add_add, add_plain, ← Nat.add_assoc] at this
        exact this
set_option maxRecDepth 100000 in
theorem open_sl {b0 : Nat} {v : Value} {d : DataW H} {p : List MemPlace} (hv : Value.okWide Tryd.prog W .any b0 22 v) (h : DataW.Trod enc Tryd.prog W 0 (fun _ => true) true 22 v d p) :
    ∃ (A : Option Addr) (n cap : Nat) (l : Dl), v = .slice A n cap ∧ l.length = n ∧ n ≤ cap ∧ cap ≤ maxLen ∧ Dd W A l := by
  obtain ⟨a, len, cap, rfl⟩ := okWide_slice Tryd.underlying22 hv
  obtain ⟨fuel, hf⟩ := h
  obtain ⟨A, n, c, l, hcs, r⟩ := open_dl hf
  simp [Value.cells] at hcs
  obtain ⟨rfl, rfl, rfl⟩ := hcs
  exact ⟨_, _, _, l, rfl, r⟩
set_option maxRecDepth 100000 in
theorem open_dig {b : Nat} {v : Value} {d : DataW H} {p : List MemPlace} (hv : Value.okWide Tryd.prog W .any b 26 v) (h : DataW.Trod enc Tryd.prog W base sp held 26 v d p) :
    ∃ x0 x1 x2 x3 : Int, v = ag [x0, x1, x2, x3] ∧ Ok4 [x0, x1, x2, x3] := by
  obtain ⟨cs, rfl, hsz, _⟩ : ∃ cs, v = .agg cs ∧ cs.size = Tryd.prog.cellsOf 26 ∧ Row.okWide Tryd.prog W .any b 26 cs := by
    simpa [Value.okWide, Tryd.underlying26] using hv
  rw [cDg] at hsz
  obtain ⟨fuel, hf⟩ := h
  obtain ⟨x0, x1, x2, x3, e, o⟩ := dg_list (by simpa using hsz) (show DataW.trod enc Tryd.prog W base sp held fuel 26 cs.toList = some (d, p) from by simpa [Value.cells] using hf)
  refine ⟨x0, x1, x2, x3, ?_, o⟩
  have : cs = #[.int .u32 x0, .int .u32 x1, .int .u32 x2, .int .u32 x3] := Array.toList_inj.1 (by rw [e])
  subst this; rfl
end
end Go.Proofs.YtcjclbhkheogpaaDoor
