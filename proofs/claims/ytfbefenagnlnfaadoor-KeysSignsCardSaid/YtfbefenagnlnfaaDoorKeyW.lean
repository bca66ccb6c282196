/- Stage 6: the laws' arguments: digests, numbers, signatures, signers, the struct of two messages with two signatures; the tables that the laws list; a world in which they hold what the program's text lays. -/
import Derived.Test.YtfbefenagnlnfaaDoorOpn
import Derived.Test.YtfbefenagnlnfaaDoorMerA
import Derived.Test.YtfbefenagnlnfaaDoorTab
import Derived.Deep.DeepHandedRow
import Derived.Stop.LaidErr
import Derived.Deep.Slices
import Derived.ChangeSame
import Derived.ChangeOld
import Derived.Carry
namespace Go.Proofs.YtfbefenagnlnfaaDoor
open Go.ChangeShapes Go.WideShapes Go.ChangeAt Go.RowKit
set_option linter.unusedVariables false

theorem own : ownKnob Tryd.prog.godebug = none := by kernel_rfl
theorem laidOut : laidOutB Tryd.prog = true := by kernel_rfl
theorem tTrn : (Tryd.prog.globals[1]?).map (·.type) = some 108 := by kernel_rfl
theorem tMrk : (Tryd.prog.globals[0]?).map (·.type) = some 24 := by kernel_rfl
theorem cTrn : Tryd.prog.cellsOf 108 = 4 := by kernel_rfl
theorem cI : Tryd.prog.cellsOf 3 = 1 := by kernel_rfl
theorem cU32 : Tryd.prog.cellsOf 22 = 1 := by kernel_rfl
theorem cDg : Tryd.prog.cellsOf 24 = 4 := by kernel_rfl
theorem cSl : Tryd.prog.cellsOf 36 = 1 := by kernel_rfl
theorem cLl : Tryd.prog.cellsOf 35 = 1 := by kernel_rfl
theorem cSig : Tryd.prog.cellsOf 38 = 3 := by kernel_rfl
theorem cSgr : Tryd.prog.cellsOf 30 = 6 := by kernel_rfl
theorem cPr : Tryd.prog.cellsOf 49 = 18 := by kernel_rfl
theorem cU8 : Tryd.prog.cellsOf 5 = 1 := by kernel_rfl
theorem cI2 : Tryd.prog.cellsOf 34 = 2 := by kernel_rfl
theorem cB3 : Tryd.prog.cellsOf 54 = 3 := by kernel_rfl
theorem tabs_of {W : World} {l : List (String × DataW Unit)} (h : laidMet Tryd.prog (("seedcorn/digest.turns", Rows.laid_seedcorn_digest_turns) :: ("seedcorn/onetime.stepMark", Rows.laid_seedcorn_onetime_stepMark) :: l) W) : Tabs W := by
  have h2 := h.tail
  rw [trn_data] at h
  rw [mrk_data] at h2
  exact { trn := Lib.tabIs_of_head gTrn tTrn Tryd.underlying108 Tryd.underlying3 cI cTrn h
          mrk := Lib.tabIs_of_head gMrk tMrk Tryd.underlying24 Tryd.underlying22 cU32 cDg h2 }
def over (cs : Array Value) : Obj → Obj
  | .cells _ t frozen => .cells cs t frozen
  | o => o
/-- A world for the witness: the settled one, its tables as their initialisers lay them. -/
noncomputable def laidWorld (os : Os) : World :=
  { World.holding Tryd.prog os ⟨#[], #[], []⟩ with heap := ((World.holding Tryd.prog os ⟨#[], #[], []⟩).heap.modify 1 (over #[.int .i64 7, .int .i64 9, .int .i64 13, .int .i64 18])).modify 0 (over #[.int .u32 0, .int .u32 0, .int .u32 0, .int .u32 1]) }

section
variable {H : Type} {enc : TypeId × Value → H} {W : World} {base : Nat} {sp : Nat → Bool} {held : Bool}
set_option maxRecDepth 100000 in
theorem dg_list {cs : List Value} {d : DataW H} {p : List MemPlace} {fuel : Nat} (hn : cs.length = 4) (h : DataW.trod enc Tryd.prog W base sp held fuel 24 cs = some (d, p)) :
    ∃ x0 x1 x2 x3 : Int, cs = [.int .u32 x0, .int .u32 x1, .int .u32 x2, .int .u32 x3] ∧ Ok4 [x0, x1, x2, x3] := by
  have h' : DataW.Trod enc Tryd.prog W base sp held 24 (.agg cs.toArray) d p := ⟨fuel, by simpa [Value.cells] using h⟩
  obtain ⟨zs, _, _, hm, hw⟩ := words_of Tryd.underlying24 cDg (by simpa using hn) h'
  match cs, hn with
  | [y0, y1, y2, y3], _ =>
    have hm2 : [[y0], [y1], [y2], [y3]] = zs.map (fun z => [Value.int .u32 z]) := hm
    match zs, hm2 with
    | [x0, x1, x2, x3], hm2 =>
      simp only [List.map_cons, List.map_nil, List.cons.injEq, and_true] at hm2
      obtain ⟨rfl, rfl, rfl, rfl⟩ := hm2
      exact ⟨x0, x1, x2, x3, rfl, rfl, fun z hz => w32_wf (hw z hz)⟩
set_option maxRecDepth 100000 in
theorem open_dl {cs : List Value} {x : DataW H × List MemPlace} {fuel : Nat} (h : DataW.trod enc Tryd.prog W 0 (fun _ => true) true fuel 36 cs = some x) :
    ∃ (A : Option Addr) (n cap : Nat) (l : Dl), cs = [.slice A n cap] ∧ l.length = n ∧ n ≤ cap ∧ cap ≤ maxLen ∧ Dd W A l := by
  rcases Go.Deep.open_slice Tryd.underlying36 h with ⟨rfl, _⟩ | ⟨a, len, cap, m, n, D, Pl, rfl, hb, hl, hm, hmm, hx, hi⟩
  · exact ⟨none, 0, 0, [], rfl, rfl, Nat.le_refl _, Nat.zero_le _, Dd.nil _ _⟩
  · simp only [if_true] at hmm
    obtain ⟨f, hf⟩ := Go.Deep.choose_lt (α := Ws) (n := len) (p := fun i z => Ok4 z ∧ ∀ j v, z[j]? = some v → W.cell? ((a.add (i * 4)).add j) = some (.int .u32 v)) (fun i hil => by
      obtain ⟨cs', h1, h2⟩ := hi i (by omega)
      rw [cDg] at h1
      obtain ⟨_, hcl, hat⟩ := World.cells?_some h1
      obtain ⟨x0, x1, x2, x3, rfl, ho⟩ := dg_list hcl h2
      refine ⟨[x0, x1, x2, x3], ho, fun j v hj => ?_⟩
      have hj4 : j < 4 := (List.getElem?_eq_some_iff.1 hj).1
      rw [hat j hj4]
      match j, hj4, hj with
      | 0, _, hj | 1, _, hj | 2, _, hj | 3, _, hj => simp at hj; subst hj; rfl)
    refine ⟨some a, len, cap, (List.range len).map f, rfl, by simp, hl, hm, ?_, ?_⟩
    · intro d hd
      obtain ⟨i, hi', rfl⟩ := List.mem_map.1 hd
      exact (hf i (by simpa using hi')).1
    · intro hne
      have hlen : 0 < len := by
        rcases Nat.eq_zero_or_pos len with h0 | h0
        · subst h0; simp at hne
        · exact h0
      obtain ⟨h4, hc⟩ := hf 0 hlen
      obtain ⟨x0, x1, x2, x3, he, _⟩ := ok4 h4
      have hc0 := hc 0 x0 (by rw [he]; rfl)
      obtain ⟨b, off, spot⟩ := a
      have hspot : spot = none := by simpa [Addr.add] using World.cell?_spot hc0
      subst hspot
      refine ⟨b, off, rfl, ?_, ?_, ?_⟩
      · intro d hd
        obtain ⟨i, hi', rfl⟩ := List.mem_map.1 hd
        exact (hf i (by simpa using hi')).1
      · rcases Nat.lt_or_ge b W.heap.size with hb' | hb'
        · exact hb'
        · rw [Go.Deep.add_add, add_plain] at hc0
          simp [World.cell?, Array.getElem?_eq_none hb'] at hc0
      · intro j d hj i v hv
        have hjl : j < len := by have := (List.getElem?_eq_some_iff.1 hj).1; simpa using this
        have e : f j = d := by simpa [hjl] using hj
        subst e
        have := (hf j hjl).2 i v hv
        rw [Go.Deep.add_add, add_plain, ← Nat.add_assoc] at this
        exact this
set_option maxRecDepth 100000 in
theorem open_ll {cs : List Value} {x : DataW H × List MemPlace} {fuel : Nat} (h : DataW.trod enc Tryd.prog W 0 (fun _ => true) true fuel 35 cs = some x) :
    ∃ (A : Option Addr) (n cap : Nat) (l : Dl), cs = [.slice A n cap] ∧ l.length = n ∧ n ≤ cap ∧ cap ≤ maxLen ∧ Dd W A l := by
  rcases Go.Deep.open_slice Tryd.underlying35 h with ⟨rfl, _⟩ | ⟨a, len, cap, m, n, D, Pl, rfl, hb, hl, hm, hmm, hx, hi⟩
  · exact ⟨none, 0, 0, [], rfl, rfl, Nat.le_refl _, Nat.zero_le _, Dd.nil _ _⟩
  · simp only [if_true] at hmm
    obtain ⟨f, hf⟩ := Go.Deep.choose_lt (α := Ws) (n := len) (p := fun i z => Ok4 z ∧ ∀ j v, z[j]? = some v → W.cell? ((a.add (i * 4)).add j) = some (.int .u32 v)) (fun i hil => by
      obtain ⟨cs', h1, h2⟩ := hi i (by omega)
      rw [cDg] at h1
      obtain ⟨_, hcl, hat⟩ := World.cells?_some h1
      obtain ⟨x0, x1, x2, x3, rfl, ho⟩ := dg_list hcl h2
      refine ⟨[x0, x1, x2, x3], ho, fun j v hj => ?_⟩
      have hj4 : j < 4 := (List.getElem?_eq_some_iff.1 hj).1
      rw [hat j hj4]
      match j, hj4, hj with
      | 0, _, hj | 1, _, hj | 2, _, hj | 3, _, hj => simp at hj; subst hj; rfl)
    refine ⟨some a, len, cap, (List.range len).map f, rfl, by simp, hl, hm, ?_, ?_⟩
    · intro d hd
      obtain ⟨i, hi', rfl⟩ := List.mem_map.1 hd
      exact (hf i (by simpa using hi')).1
    · intro hne
      have hlen : 0 < len := by
        rcases Nat.eq_zero_or_pos len with h0 | h0
        · subst h0; simp at hne
        · exact h0
      obtain ⟨h4, hc⟩ := hf 0 hlen
      obtain ⟨x0, x1, x2, x3, he, _⟩ := ok4 h4
      have hc0 := hc 0 x0 (by rw [he]; rfl)
      obtain ⟨b, off, spot⟩ := a
      have hspot : spot = none := by simpa [Addr.add] using World.cell?_spot hc0
      subst hspot
      refine ⟨b, off, rfl, ?_, ?_, ?_⟩
      · intro d hd
        obtain ⟨i, hi', rfl⟩ := List.mem_map.1 hd
        exact (hf i (by simpa using hi')).1
      · rcases Nat.lt_or_ge b W.heap.size with hb' | hb'
        · exact hb'
        · rw [Go.Deep.add_add, add_plain] at hc0
          simp [World.cell?, Array.getElem?_eq_none hb'] at hc0
      · intro j d hj i v hv
        have hjl : j < len := by have := (List.getElem?_eq_some_iff.1 hj).1; simpa using this
        have e : f j = d := by simpa [hjl] using hj
        subst e
        have := (hf j hjl).2 i v hv
        rw [Go.Deep.add_add, add_plain, ← Nat.add_assoc] at this
        exact this
set_option maxRecDepth 100000 in
theorem open_lst {b0 : Nat} {v : Value} {d : DataW H} {p : List MemPlace} (hv : Value.okWide Tryd.prog W .any b0 35 v) (h : DataW.Trod enc Tryd.prog W 0 (fun _ => true) true 35 v d p) :
    ∃ (A : Option Addr) (n cap : Nat) (l : Dl), v = .slice A n cap ∧ l.length = n ∧ n ≤ cap ∧ cap ≤ maxLen ∧ Dd W A l := by
  obtain ⟨a, len, cap, rfl⟩ := okWide_slice Tryd.underlying35 hv
  obtain ⟨fuel, hf⟩ := h
  obtain ⟨A, n, c, l, hcs, r⟩ := open_ll hf
  simp [Value.cells] at hcs
  obtain ⟨rfl, rfl, rfl⟩ := hcs
  exact ⟨_, _, _, l, rfl, r⟩
set_option maxRecDepth 100000 in
theorem open_dig {b : Nat} {v : Value} {d : DataW H} {p : List MemPlace} (hv : Value.okWide Tryd.prog W .any b 24 v) (h : DataW.Trod enc Tryd.prog W base sp held 24 v d p) :
    ∃ x0 x1 x2 x3 : Int, v = ag [x0, x1, x2, x3] ∧ Ok4 [x0, x1, x2, x3] := by
  obtain ⟨cs, rfl, hsz, _⟩ : ∃ cs, v = .agg cs ∧ cs.size = Tryd.prog.cellsOf 24 ∧ Row.okWide Tryd.prog W .any b 24 cs := by
    simpa [Value.okWide, Tryd.underlying24] using hv
  rw [cDg] at hsz
  obtain ⟨fuel, hf⟩ := h
  obtain ⟨x0, x1, x2, x3, e, o⟩ := dg_list (by simpa using hsz) (show DataW.trod enc Tryd.prog W base sp held fuel 24 cs.toList = some (d, p) from by simpa [Value.cells] using hf)
  refine ⟨x0, x1, x2, x3, ?_, o⟩
  have : cs = #[.int .u32 x0, .int .u32 x1, .int .u32 x2, .int .u32 x3] := Array.toList_inj.1 (by rw [e])
  subst this; rfl
theorem mapM_i2 {m : Nat} {cs : List Value} {c : Nat} : ∀ (L : List Nat) (ys : List (DataW H × List MemPlace)),
    L.mapM (fun i => DataW.trod enc Tryd.prog W base sp held m 3 ((cs.drop (i * c)).take c)) = some ys →
    ∃ zs : List Int, ys = zs.map (fun z => (.lit (.int .i64 z), [])) ∧ L.map (fun i => (cs.drop (i * c)).take c) = zs.map (fun z => [.int .i64 z]) ∧ ∀ z ∈ zs, (Lit.int .i64 z).wf = true
  | [], ys, h => by
    simp at h
    subst h
    exact ⟨[], rfl, rfl, by simp⟩
  | i :: L, ys, h => by
    rw [List.mapM_cons] at h
    simp only [bind, Option.bind_eq_some_iff, pure, Option.some.injEq] at h
    obtain ⟨y, hy, ys', hys, rfl⟩ := h
    obtain ⟨zs, rfl, hm, hw⟩ := mapM_i2 L ys' hys
    obtain ⟨a, ea, rfl, wa⟩ := DataW.trod_int Tryd.underlying3 hy
    refine ⟨a :: zs, rfl, by rw [List.map_cons, List.map_cons, hm, ea], ?_⟩
    intro z hz
    rcases List.mem_cons.1 hz with rfl | hz
    · exact wa
    · exact hw z hz
set_option maxRecDepth 100000 in
theorem open_i2 {b : Nat} {v : Value} {d : DataW H} {p : List MemPlace} (hv : Value.okWide Tryd.prog W .any b 34 v) (h : DataW.Trod enc Tryd.prog W base sp held 34 v d p) :
    ∃ x0 x1 : Int, v = .agg #[.int .i64 x0, .int .i64 x1] ∧ (Lit.int .i64 x0).wf = true ∧ (Lit.int .i64 x1).wf = true := by
  obtain ⟨cs, rfl, hsz, _⟩ : ∃ cs, v = .agg cs ∧ cs.size = Tryd.prog.cellsOf 34 ∧ Row.okWide Tryd.prog W .any b 34 cs := by
    simpa [Value.okWide, Tryd.underlying34] using hv
  rw [cI2] at hsz
  obtain ⟨fuel, hf⟩ := h
  cases fuel with
  | zero => simp [DataW.trod] at hf
  | succ m =>
    rw [DataW.trod_step] at hf
    unfold DataW.trodStep at hf
    simp only [Tryd.underlying34, Value.cells] at hf
    rw [if_pos (by rw [cI2]; simpa using hsz)] at hf
    simp only [Option.map_eq_some_iff] at hf
    obtain ⟨ys, hy, e1⟩ := hf
    obtain ⟨zs, rfl, hm, hw⟩ := mapM_i2 _ ys hy
    rw [cI] at hm
    obtain ⟨ls⟩ := cs
    match ls, hsz with
    | [y0, y1], _ =>
      have hm2 : [[y0], [y1]] = zs.map (fun z => [Value.int .i64 z]) := hm
      match zs, hm2 with
      | [x0, x1], hm2 =>
        simp only [List.map_cons, List.map_nil, List.cons.injEq, and_true] at hm2
        obtain ⟨rfl, rfl⟩ := hm2
        exact ⟨x0, x1, rfl, hw x0 (by simp), hw x1 (by simp)⟩
theorem mapM_b3 {m : Nat} {cs : List Value} {c : Nat} : ∀ (L : List Nat) (ys : List (DataW H × List MemPlace)),
    L.mapM (fun i => DataW.trod enc Tryd.prog W base sp held m 5 ((cs.drop (i * c)).take c)) = some ys →
    ∃ zs : List Int, ys = zs.map (fun z => (.lit (.int .u8 z), [])) ∧ L.map (fun i => (cs.drop (i * c)).take c) = zs.map (fun z => [.int .u8 z]) ∧ ∀ z ∈ zs, (Lit.int .u8 z).wf = true
  | [], ys, h => by
    simp at h
    subst h
    exact ⟨[], rfl, rfl, by simp⟩
  | i :: L, ys, h => by
    rw [List.mapM_cons] at h
    simp only [bind, Option.bind_eq_some_iff, pure, Option.some.injEq] at h
    obtain ⟨y, hy, ys', hys, rfl⟩ := h
    obtain ⟨zs, rfl, hm, hw⟩ := mapM_b3 L ys' hys
    obtain ⟨a, ea, rfl, wa⟩ := DataW.trod_int Tryd.underlying5 hy
    refine ⟨a :: zs, rfl, by rw [List.map_cons, List.map_cons, hm, ea], ?_⟩
    intro z hz
    rcases List.mem_cons.1 hz with rfl | hz
    · exact wa
    · exact hw z hz
set_option maxRecDepth 100000 in
theorem open_b3 {b : Nat} {v : Value} {d : DataW H} {p : List MemPlace} (hv : Value.okWide Tryd.prog W .any b 54 v) (h : DataW.Trod enc Tryd.prog W base sp held 54 v d p) :
    ∃ x0 x1 x2 : Int, v = .agg #[.int .u8 x0, .int .u8 x1, .int .u8 x2] ∧ (Lit.int .u8 x0).wf = true ∧ (Lit.int .u8 x1).wf = true ∧ (Lit.int .u8 x2).wf = true := by
  obtain ⟨cs, rfl, hsz, _⟩ : ∃ cs, v = .agg cs ∧ cs.size = Tryd.prog.cellsOf 54 ∧ Row.okWide Tryd.prog W .any b 54 cs := by
    simpa [Value.okWide, Tryd.underlying54] using hv
  rw [cB3] at hsz
  obtain ⟨fuel, hf⟩ := h
  cases fuel with
  | zero => simp [DataW.trod] at hf
  | succ m =>
    rw [DataW.trod_step] at hf
    unfold DataW.trodStep at hf
    simp only [Tryd.underlying54, Value.cells] at hf
    rw [if_pos (by rw [cB3]; simpa using hsz)] at hf
    simp only [Option.map_eq_some_iff] at hf
    obtain ⟨ys, hy, e1⟩ := hf
    obtain ⟨zs, rfl, hm, hw⟩ := mapM_b3 _ ys hy
    rw [cU8] at hm
    obtain ⟨ls⟩ := cs
    match ls, hsz with
    | [y0, y1, y2], _ =>
      have hm2 : [[y0], [y1], [y2]] = zs.map (fun z => [Value.int .u8 z]) := hm
      match zs, hm2 with
      | [x0, x1, x2], hm2 =>
        simp only [List.map_cons, List.map_nil, List.cons.injEq, and_true] at hm2
        obtain ⟨rfl, rfl, rfl⟩ := hm2
        exact ⟨x0, x1, x2, rfl, hw x0 (by simp), hw x1 (by simp), hw x2 (by simp)⟩
set_option maxRecDepth 100000 in
set_option maxHeartbeats 1000000 in
theorem sig_list {ls : List Value} {x : DataW H × List MemPlace} {fuel : Nat} (hsz : ls.length = 3) (hf : DataW.trod enc Tryd.prog W 0 (fun _ => true) true fuel 38 ls = some x) :
    ∃ (I0 : Int) (A1 : Option Addr) (n1 c1 : Nat) (l1 : Dl) (A2 : Option Addr) (n2 c2 : Nat) (l2 : Dl), ls = [.int .i64 I0, .slice A1 n1 c1, .slice A2 n2 c2] ∧ (Lit.int .i64 I0).wf = true ∧ (l1.length = n1 ∧ n1 ≤ c1 ∧ c1 ≤ maxLen ∧ Dd W A1 l1) ∧ (l2.length = n2 ∧ n2 ≤ c2 ∧ c2 ≤ maxLen ∧ Dd W A2 l2) := by
  match ls, hsz with
  | [e0, e1, e2], _ =>
    obtain ⟨xs, n, _, _, _, hlen, hg⟩ := DataW.trod_struct Tryd.underlying38 hf
    have hxl : xs.length = 3 := hlen
    match xs, hxl with
    | [(t0, p0), (t1, p1), (t2, p2)], _ =>
      have g0 : DataW.trod enc Tryd.prog W 0 (fun _ => true) true n 3 (([e0, e1, e2].drop 0).take (Tryd.prog.cellsOf 3)) = some (t0, p0) := hg 0 _ rfl
      rw [cI] at g0
      have g0 : DataW.trod enc Tryd.prog W 0 (fun _ => true) true n 3 [e0] = some (t0, p0) := g0
      obtain ⟨I0, q0, _, o0⟩ := DataW.trod_int Tryd.underlying3 g0
      have g1 : DataW.trod enc Tryd.prog W 0 (fun _ => true) true n 36 (([e0, e1, e2].drop 1).take (Tryd.prog.cellsOf 36)) = some (t1, p1) := hg 1 _ rfl
      rw [cSl] at g1
      have g1 : DataW.trod enc Tryd.prog W 0 (fun _ => true) true n 36 [e1] = some (t1, p1) := g1
      obtain ⟨A1, n1, c1, l1, q1, o1⟩ := open_dl g1
      have g2 : DataW.trod enc Tryd.prog W 0 (fun _ => true) true n 35 (([e0, e1, e2].drop 2).take (Tryd.prog.cellsOf 35)) = some (t2, p2) := hg 2 _ rfl
      rw [cLl] at g2
      have g2 : DataW.trod enc Tryd.prog W 0 (fun _ => true) true n 35 [e2] = some (t2, p2) := g2
      obtain ⟨A2, n2, c2, l2, q2, o2⟩ := open_ll g2
      simp only [List.cons.injEq, and_true] at q0 q1 q2
      subst q0
      subst q1
      subst q2
      exact ⟨I0, A1, n1, c1, l1, A2, n2, c2, l2, rfl, o0, o1, o2⟩
set_option maxRecDepth 100000 in
theorem open_sig {b0 : Nat} {v : Value} {d : DataW H} {p : List MemPlace} (hv : Value.okWide Tryd.prog W .any b0 38 v) (h : DataW.Trod enc Tryd.prog W 0 (fun _ => true) true 38 v d p) :
    ∃ (I0 : Int) (A1 : Option Addr) (n1 c1 : Nat) (l1 : Dl) (A2 : Option Addr) (n2 c2 : Nat) (l2 : Dl), v = .agg #[.int .i64 I0, .slice A1 n1 c1, .slice A2 n2 c2] ∧ (Lit.int .i64 I0).wf = true ∧ (l1.length = n1 ∧ n1 ≤ c1 ∧ c1 ≤ maxLen ∧ Dd W A1 l1) ∧ (l2.length = n2 ∧ n2 ≤ c2 ∧ c2 ≤ maxLen ∧ Dd W A2 l2) := by
  obtain ⟨cs, rfl, hsz⟩ := okWide_struct Tryd.underlying38 hv
  rw [cSig] at hsz
  obtain ⟨fuel, hf⟩ := h
  obtain ⟨I0, A1, n1, c1, l1, A2, n2, c2, l2, he, hr⟩ := sig_list (by simpa using hsz) (show DataW.trod enc Tryd.prog W 0 (fun _ => true) true fuel 38 cs.toList = some (d, p) from by simpa [Value.cells] using hf)
  refine ⟨I0, A1, n1, c1, l1, A2, n2, c2, l2, ?_, hr⟩
  have : cs = #[.int .i64 I0, .slice A1 n1 c1, .slice A2 n2 c2] := Array.toList_inj.1 (by rw [he])
  subst this; rfl
set_option maxRecDepth 100000 in
set_option maxHeartbeats 1000000 in
theorem sgr_list {ls : List Value} {x : DataW H × List MemPlace} {fuel : Nat} (hsz : ls.length = 6) (hf : DataW.trod enc Tryd.prog W 0 (fun _ => true) true fuel 30 ls = some x) :
    ∃ (r00 r01 r02 r03 : Int) (I1 : Int) (I2 : Int), ls = [.int .u32 r00, .int .u32 r01, .int .u32 r02, .int .u32 r03, .int .i64 I1, .int .i64 I2] ∧ Ok4 [r00, r01, r02, r03] ∧ (Lit.int .i64 I1).wf = true ∧ (Lit.int .i64 I2).wf = true := by
  match ls, hsz with
  | [e0, e1, e2, e3, e4, e5], _ =>
    obtain ⟨xs, n, _, _, _, hlen, hg⟩ := DataW.trod_struct Tryd.underlying30 hf
    have hxl : xs.length = 3 := hlen
    match xs, hxl with
    | [(t0, p0), (t1, p1), (t2, p2)], _ =>
      have g0 : DataW.trod enc Tryd.prog W 0 (fun _ => true) true n 24 (([e0, e1, e2, e3, e4, e5].drop 0).take (Tryd.prog.cellsOf 24)) = some (t0, p0) := hg 0 _ rfl
      rw [cDg] at g0
      have g0 : DataW.trod enc Tryd.prog W 0 (fun _ => true) true n 24 [e0, e1, e2, e3] = some (t0, p0) := g0
      obtain ⟨r00, r01, r02, r03, q0, o0⟩ := dg_list rfl g0
      have g1 : DataW.trod enc Tryd.prog W 0 (fun _ => true) true n 3 (([e0, e1, e2, e3, e4, e5].drop 4).take (Tryd.prog.cellsOf 3)) = some (t1, p1) := hg 1 _ rfl
      rw [cI] at g1
      have g1 : DataW.trod enc Tryd.prog W 0 (fun _ => true) true n 3 [e4] = some (t1, p1) := g1
      obtain ⟨I1, q1, _, o1⟩ := DataW.trod_int Tryd.underlying3 g1
      have g2 : DataW.trod enc Tryd.prog W 0 (fun _ => true) true n 3 (([e0, e1, e2, e3, e4, e5].drop 5).take (Tryd.prog.cellsOf 3)) = some (t2, p2) := hg 2 _ rfl
      rw [cI] at g2
      have g2 : DataW.trod enc Tryd.prog W 0 (fun _ => true) true n 3 [e5] = some (t2, p2) := g2
      obtain ⟨I2, q2, _, o2⟩ := DataW.trod_int Tryd.underlying3 g2
      simp only [List.cons.injEq, and_true] at q0 q1 q2
      obtain ⟨rfl, rfl, rfl, rfl⟩ := q0
      subst q1
      subst q2
      exact ⟨r00, r01, r02, r03, I1, I2, rfl, o0, o1, o2⟩
set_option maxRecDepth 100000 in
theorem open_sgr {b0 : Nat} {v : Value} {d : DataW H} {p : List MemPlace} (hv : Value.okWide Tryd.prog W .any b0 30 v) (h : DataW.Trod enc Tryd.prog W 0 (fun _ => true) true 30 v d p) :
    ∃ (r00 r01 r02 r03 : Int) (I1 : Int) (I2 : Int), v = .agg #[.int .u32 r00, .int .u32 r01, .int .u32 r02, .int .u32 r03, .int .i64 I1, .int .i64 I2] ∧ Ok4 [r00, r01, r02, r03] ∧ (Lit.int .i64 I1).wf = true ∧ (Lit.int .i64 I2).wf = true := by
  obtain ⟨cs, rfl, hsz⟩ := okWide_struct Tryd.underlying30 hv
  rw [cSgr] at hsz
  obtain ⟨fuel, hf⟩ := h
  obtain ⟨r00, r01, r02, r03, I1, I2, he, hr⟩ := sgr_list (by simpa using hsz) (show DataW.trod enc Tryd.prog W 0 (fun _ => true) true fuel 30 cs.toList = some (d, p) from by simpa [Value.cells] using hf)
  refine ⟨r00, r01, r02, r03, I1, I2, ?_, hr⟩
  have : cs = #[.int .u32 r00, .int .u32 r01, .int .u32 r02, .int .u32 r03, .int .i64 I1, .int .i64 I2] := Array.toList_inj.1 (by rw [he])
  subst this; rfl
set_option maxRecDepth 100000 in
set_option maxHeartbeats 1000000 in
theorem pr_list {ls : List Value} {x : DataW H × List MemPlace} {fuel : Nat} (hsz : ls.length = 18) (hf : DataW.trod enc Tryd.prog W 0 (fun _ => true) true fuel 49 ls = some x) :
    ∃ (r00 r01 r02 r03 : Int) (r10 r11 r12 r13 : Int) (r20 r21 r22 r23 : Int) (I3 : Int) (A3 : Option Addr) (n3 c3 : Nat) (l3 : Dl) (B3 : Option Addr) (m3 d3 : Nat) (k3 : Dl) (I4 : Int) (A4 : Option Addr) (n4 c4 : Nat) (l4 : Dl) (B4 : Option Addr) (m4 d4 : Nat) (k4 : Dl), ls = [.int .u32 r00, .int .u32 r01, .int .u32 r02, .int .u32 r03, .int .u32 r10, .int .u32 r11, .int .u32 r12, .int .u32 r13, .int .u32 r20, .int .u32 r21, .int .u32 r22, .int .u32 r23, .int .i64 I3, .slice A3 n3 c3, .slice B3 m3 d3, .int .i64 I4, .slice A4 n4 c4, .slice B4 m4 d4] ∧ Ok4 [r00, r01, r02, r03] ∧ Ok4 [r10, r11, r12, r13] ∧ Ok4 [r20, r21, r22, r23] ∧ ((l3.length = n3 ∧ n3 ≤ c3 ∧ c3 ≤ maxLen ∧ Dd W A3 l3) ∧ (k3.length = m3 ∧ m3 ≤ d3 ∧ d3 ≤ maxLen ∧ Dd W B3 k3)) ∧ ((l4.length = n4 ∧ n4 ≤ c4 ∧ c4 ≤ maxLen ∧ Dd W A4 l4) ∧ (k4.length = m4 ∧ m4 ≤ d4 ∧ d4 ≤ maxLen ∧ Dd W B4 k4)) := by
  match ls, hsz with
  | [e0, e1, e2, e3, e4, e5, e6, e7, e8, e9, e10, e11, e12, e13, e14, e15, e16, e17], _ =>
    obtain ⟨xs, n, _, _, _, hlen, hg⟩ := DataW.trod_struct Tryd.underlying49 hf
    have hxl : xs.length = 5 := hlen
    match xs, hxl with
    | [(t0, p0), (t1, p1), (t2, p2), (t3, p3), (t4, p4)], _ =>
      have g0 : DataW.trod enc Tryd.prog W 0 (fun _ => true) true n 24 (([e0, e1, e2, e3, e4, e5, e6, e7, e8, e9, e10, e11, e12, e13, e14, e15, e16, e17].drop 0).take (Tryd.prog.cellsOf 24)) = some (t0, p0) := hg 0 _ rfl
      rw [cDg] at g0
      have g0 : DataW.trod enc Tryd.prog W 0 (fun _ => true) true n 24 [e0, e1, e2, e3] = some (t0, p0) := g0
      obtain ⟨r00, r01, r02, r03, q0, o0⟩ := dg_list rfl g0
      have g1 : DataW.trod enc Tryd.prog W 0 (fun _ => true) true n 24 (([e0, e1, e2, e3, e4, e5, e6, e7, e8, e9, e10, e11, e12, e13, e14, e15, e16, e17].drop 4).take (Tryd.prog.cellsOf 24)) = some (t1, p1) := hg 1 _ rfl
      rw [cDg] at g1
      have g1 : DataW.trod enc Tryd.prog W 0 (fun _ => true) true n 24 [e4, e5, e6, e7] = some (t1, p1) := g1
      obtain ⟨r10, r11, r12, r13, q1, o1⟩ := dg_list rfl g1
      have g2 : DataW.trod enc Tryd.prog W 0 (fun _ => true) true n 24 (([e0, e1, e2, e3, e4, e5, e6, e7, e8, e9, e10, e11, e12, e13, e14, e15, e16, e17].drop 8).take (Tryd.prog.cellsOf 24)) = some (t2, p2) := hg 2 _ rfl
      rw [cDg] at g2
      have g2 : DataW.trod enc Tryd.prog W 0 (fun _ => true) true n 24 [e8, e9, e10, e11] = some (t2, p2) := g2
      obtain ⟨r20, r21, r22, r23, q2, o2⟩ := dg_list rfl g2
      have g3 : DataW.trod enc Tryd.prog W 0 (fun _ => true) true n 38 (([e0, e1, e2, e3, e4, e5, e6, e7, e8, e9, e10, e11, e12, e13, e14, e15, e16, e17].drop 12).take (Tryd.prog.cellsOf 38)) = some (t3, p3) := hg 3 _ rfl
      rw [cSig] at g3
      have g3 : DataW.trod enc Tryd.prog W 0 (fun _ => true) true n 38 [e12, e13, e14] = some (t3, p3) := g3
      obtain ⟨I3, A3, n3, c3, l3, B3, m3, d3, k3, q3, _, o3, o3x⟩ := sig_list rfl g3
      have g4 : DataW.trod enc Tryd.prog W 0 (fun _ => true) true n 38 (([e0, e1, e2, e3, e4, e5, e6, e7, e8, e9, e10, e11, e12, e13, e14, e15, e16, e17].drop 15).take (Tryd.prog.cellsOf 38)) = some (t4, p4) := hg 4 _ rfl
      rw [cSig] at g4
      have g4 : DataW.trod enc Tryd.prog W 0 (fun _ => true) true n 38 [e15, e16, e17] = some (t4, p4) := g4
      obtain ⟨I4, A4, n4, c4, l4, B4, m4, d4, k4, q4, _, o4, o4x⟩ := sig_list rfl g4
      simp only [List.cons.injEq, and_true] at q0 q1 q2 q3 q4
      obtain ⟨rfl, rfl, rfl, rfl⟩ := q0
      obtain ⟨rfl, rfl, rfl, rfl⟩ := q1
      obtain ⟨rfl, rfl, rfl, rfl⟩ := q2
      obtain ⟨rfl, rfl, rfl⟩ := q3
      obtain ⟨rfl, rfl, rfl⟩ := q4
      exact ⟨r00, r01, r02, r03, r10, r11, r12, r13, r20, r21, r22, r23, I3, A3, n3, c3, l3, B3, m3, d3, k3, I4, A4, n4, c4, l4, B4, m4, d4, k4, rfl, o0, o1, o2, ⟨o3, o3x⟩, ⟨o4, o4x⟩⟩
set_option maxRecDepth 100000 in
theorem open_pr {b0 : Nat} {v : Value} {d : DataW H} {p : List MemPlace} (hv : Value.okWide Tryd.prog W .any b0 49 v) (h : DataW.Trod enc Tryd.prog W 0 (fun _ => true) true 49 v d p) :
    ∃ (r00 r01 r02 r03 : Int) (r10 r11 r12 r13 : Int) (r20 r21 r22 r23 : Int) (I3 : Int) (A3 : Option Addr) (n3 c3 : Nat) (l3 : Dl) (B3 : Option Addr) (m3 d3 : Nat) (k3 : Dl) (I4 : Int) (A4 : Option Addr) (n4 c4 : Nat) (l4 : Dl) (B4 : Option Addr) (m4 d4 : Nat) (k4 : Dl), v = .agg #[.int .u32 r00, .int .u32 r01, .int .u32 r02, .int .u32 r03, .int .u32 r10, .int .u32 r11, .int .u32 r12, .int .u32 r13, .int .u32 r20, .int .u32 r21, .int .u32 r22, .int .u32 r23, .int .i64 I3, .slice A3 n3 c3, .slice B3 m3 d3, .int .i64 I4, .slice A4 n4 c4, .slice B4 m4 d4] ∧ Ok4 [r00, r01, r02, r03] ∧ Ok4 [r10, r11, r12, r13] ∧ Ok4 [r20, r21, r22, r23] ∧ ((l3.length = n3 ∧ n3 ≤ c3 ∧ c3 ≤ maxLen ∧ Dd W A3 l3) ∧ (k3.length = m3 ∧ m3 ≤ d3 ∧ d3 ≤ maxLen ∧ Dd W B3 k3)) ∧ ((l4.length = n4 ∧ n4 ≤ c4 ∧ c4 ≤ maxLen ∧ Dd W A4 l4) ∧ (k4.length = m4 ∧ m4 ≤ d4 ∧ d4 ≤ maxLen ∧ Dd W B4 k4)) := by
  obtain ⟨cs, rfl, hsz⟩ := okWide_struct Tryd.underlying49 hv
  rw [cPr] at hsz
  obtain ⟨fuel, hf⟩ := h
  obtain ⟨r00, r01, r02, r03, r10, r11, r12, r13, r20, r21, r22, r23, I3, A3, n3, c3, l3, B3, m3, d3, k3, I4, A4, n4, c4, l4, B4, m4, d4, k4, he, hr⟩ := pr_list (by simpa using hsz) (show DataW.trod enc Tryd.prog W 0 (fun _ => true) true fuel 49 cs.toList = some (d, p) from by simpa [Value.cells] using hf)
  refine ⟨r00, r01, r02, r03, r10, r11, r12, r13, r20, r21, r22, r23, I3, A3, n3, c3, l3, B3, m3, d3, k3, I4, A4, n4, c4, l4, B4, m4, d4, k4, ?_, hr⟩
  have : cs = #[.int .u32 r00, .int .u32 r01, .int .u32 r02, .int .u32 r03, .int .u32 r10, .int .u32 r11, .int .u32 r12, .int .u32 r13, .int .u32 r20, .int .u32 r21, .int .u32 r22, .int .u32 r23, .int .i64 I3, .slice A3 n3 c3, .slice B3 m3 d3, .int .i64 I4, .slice A4 n4 c4, .slice B4 m4 d4] := Array.toList_inj.1 (by rw [he])
  subst this; rfl
end
end Go.Proofs.YtfbefenagnlnfaaDoor
