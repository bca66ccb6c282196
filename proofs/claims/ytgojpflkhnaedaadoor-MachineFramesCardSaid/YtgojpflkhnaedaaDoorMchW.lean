/- Stage 9: the laws' arguments: images, states, the struct of image, input and state; the tables that the laws list; a world in which they hold what the program's text lays. -/
import Derived.Test.YtgojpflkhnaedaaDoorCards
import Derived.Test.YtgojpflkhnaedaaDoorTie
import Derived.WalkKit
import Derived.ProofKit
import Derived.OpenShut
import Derived.ShutString
import Derived.Test.YtgojpflkhnaedaaDoorTab
import Derived.Test.YtgojpflkhnaedaaDoorTabG
import Derived.Deep.DeepHandedRow
import Derived.Stop.LaidErr
import Derived.Deep.Slices
import Derived.ChangeSame
import Derived.ChangeOld
import Derived.Carry
import Derived.Test.YtgojpflkhnaedaaDoorG9b
import Derived.Test.YtgojpflkhnaedaaDoorG9c
namespace Go.Proofs.YtgojpflkhnaedaaDoor
open Go.ChangeShapes Go.WideShapes Go.ChangeAt Go.RowKit
set_option linter.unusedVariables false

theorem own : ownKnob Tryd.prog.godebug = none := by kernel_rfl
theorem laidOut : laidOutB Tryd.prog = true := by kernel_rfl
theorem cInt : Tryd.prog.cellsOf 3 = 1 := by kernel_rfl
theorem cWs : Tryd.prog.cellsOf 22 = 1 := by kernel_rfl
theorem cStr : Tryd.prog.cellsOf 9 = 1 := by kernel_rfl
theorem cU9 : Tryd.prog.cellsOf 27 = 1 := by kernel_rfl
theorem cA16 : Tryd.prog.cellsOf 28 = 16 := by kernel_rfl
theorem cImg : Tryd.prog.cellsOf 24 = 2 := by kernel_rfl
theorem cSt : Tryd.prog.cellsOf 30 = 22 := by kernel_rfl
theorem cAsk9 : Tryd.prog.cellsOf 34 = 25 := by kernel_rfl
def opl : List Lit := (List.range 28).flatMap fun (k : Nat) => [.string (nam (k : Int)), .int .i64 (mxa k), .int .i64 (mxb k), .int .i64 (mxc k)]
theorem t_opr : (Tryd.prog.globals[0]?).map (·.type) = some 74 := by kernel_rfl
theorem ti_opr : Tryd.prog.tiled 4 74 = true := by kernel_rfl
theorem opr_data : litsD 4 (Rows.laid_seedcorn_inst_operations : DataW Unit) = some opl := by kernel_rfl
theorem opl_cells : (opl.map Lit.toCell).toArray = oprs := by kernel_rfl
theorem tabs_of {W : World} {l : List (String × DataW Unit)} (h : laidMet Tryd.prog (("seedcorn/inst.operations", Rows.laid_seedcorn_inst_operations) :: l) W) : Tabs W := by
  have h0 := h
  exact { opr := (var_of_head gOpr t_opr ti_opr opr_data h0).trans (congrArg some opl_cells) }
def over (cs : Array Value) : Obj → Obj
  | .cells _ t frozen => .cells cs t frozen
  | o => o
/-- A world for the witness: the settled one, its tables as their initialisers lay them. -/
noncomputable def laidWorld (os : Os) : World :=
  { World.holding Tryd.prog os ⟨#[], #[], []⟩ with heap := ((World.holding Tryd.prog os ⟨#[], #[], []⟩).heap.modify 0 (over #[.string ⟨#[]⟩, .int .i64 0, .int .i64 0, .int .i64 0, .string ⟨#[108, 105]⟩, .int .i64 15, .int .i64 0, .int .i64 65535, .string ⟨#[108, 117, 105]⟩, .int .i64 15, .int .i64 0, .int .i64 65535, .string ⟨#[109, 111, 118]⟩, .int .i64 15, .int .i64 15, .int .i64 0, .string ⟨#[97, 100, 100]⟩, .int .i64 15, .int .i64 15, .int .i64 15, .string ⟨#[115, 117, 98]⟩, .int .i64 15, .int .i64 15, .int .i64 15, .string ⟨#[109, 117, 108]⟩, .int .i64 15, .int .i64 15, .int .i64 15, .string ⟨#[100, 105, 118]⟩, .int .i64 15, .int .i64 15, .int .i64 15, .string ⟨#[109, 111, 100]⟩, .int .i64 15, .int .i64 15, .int .i64 15, .string ⟨#[97, 110, 100]⟩, .int .i64 15, .int .i64 15, .int .i64 15, .string ⟨#[111, 114]⟩, .int .i64 15, .int .i64 15, .int .i64 15, .string ⟨#[120, 111, 114]⟩, .int .i64 15, .int .i64 15, .int .i64 15, .string ⟨#[115, 104, 108]⟩, .int .i64 15, .int .i64 15, .int .i64 15, .string ⟨#[115, 104, 114]⟩, .int .i64 15, .int .i64 15, .int .i64 15, .string ⟨#[108, 116]⟩, .int .i64 15, .int .i64 15, .int .i64 15, .string ⟨#[101, 113]⟩, .int .i64 15, .int .i64 15, .int .i64 15, .string ⟨#[108, 100]⟩, .int .i64 15, .int .i64 15, .int .i64 65535, .string ⟨#[115, 116]⟩, .int .i64 15, .int .i64 15, .int .i64 65535, .string ⟨#[106, 109, 112]⟩, .int .i64 0, .int .i64 0, .int .i64 65535, .string ⟨#[106, 122]⟩, .int .i64 15, .int .i64 0, .int .i64 65535, .string ⟨#[106, 110, 122]⟩, .int .i64 15, .int .i64 0, .int .i64 65535, .string ⟨#[99, 97, 108, 108]⟩, .int .i64 15, .int .i64 0, .int .i64 65535, .string ⟨#[114, 101, 116]⟩, .int .i64 15, .int .i64 0, .int .i64 0, .string ⟨#[103, 101, 116]⟩, .int .i64 15, .int .i64 0, .int .i64 0, .string ⟨#[112, 117, 116]⟩, .int .i64 15, .int .i64 0, .int .i64 0, .string ⟨#[99, 104, 107]⟩, .int .i64 15, .int .i64 0, .int .i64 65535, .string ⟨#[104, 97, 108, 116]⟩, .int .i64 0, .int .i64 0, .int .i64 0, .string ⟨#[108, 100, 99]⟩, .int .i64 15, .int .i64 15, .int .i64 65535])) }
/-- What is known of words that came in. -/
theorem rd_cells {w : World} {x : Addr} {len cap : Nat} {zs : List Int} (hl : len ≤ cap) (hz : zs.length = cap) (hc : ∀ i, i < zs.length → w.cell? (x.add i) = some (.int .u32 (zs.getD i 0))) (hw : ∀ n ∈ zs, (Lit.int .u32 n).wf = true) :
    Rd w (some x) len (zs.take len) ∧ W32s (zs.take len) := by
  have k : W32s (zs.take len) := by
    intro z hz
    have := bounds_u32 (hw z (List.mem_of_mem_take hz))
    omega
  have k2 : ∀ j, 0 ≤ (zs.take len).getD j 0 ∧ (zs.take len).getD j 0 < 4294967296 := by
    intro j
    by_cases hj : j < (zs.take len).length
    · have h1 := k _ (List.getElem_mem hj)
      have e : (zs.take len).getD j 0 = (zs.take len)[j] := by
        rw [List.getD, List.getElem?_eq_getElem hj]; rfl
      rw [e]; exact h1
    · have e : (zs.take len).getD j 0 = 0 := by
        rw [List.getD, List.getElem?_eq_none (by omega)]; rfl
      rw [e]; omega
  refine ⟨⟨by rw [List.length_take]; omega, ?_, k2⟩, k⟩
  by_cases h0 : len = 0
  · exact Or.inl h0
  · obtain ⟨b, off, rfl, hcc⟩ := ints_at hc (by omega)
    refine Or.inr ⟨b, off, rfl, ?_, ?_⟩
    · have h := hcc 0 (by omega)
      rcases Nat.lt_or_ge b w.heap.size with hb | hb
      · exact hb
      · simp [World.cell?, Array.getElem?_eq_none hb] at h
    · intro j hj
      rw [hcc j (by omega)]
      simp [List.getD, hj]
section
variable {H : Type} {enc : TypeId × Value → H} {W : World} {base : Nat} {sp : Nat → Bool} {held : Bool}
theorem open_ws {cs : List Value} {x : DataW H × List MemPlace} {fuel : Nat} (h : DataW.trod enc Tryd.prog W 0 (fun _ => true) true fuel 22 cs = some x) :
    ∃ (A : Option Addr) (n c : Nat) (l : List Int), cs = [.slice A n c] ∧ n ≤ c ∧ c ≤ maxLen ∧ Rd W A n l ∧ W32s l := by
  rcases open_ints Tryd.underlying22 Tryd.underlying27 (by kernel_rfl) h with ⟨hcs, _⟩ | ⟨x, l, c, zs, hcs, _, hl, hm, hz, _, hcell, hwz⟩
  · exact ⟨none, 0, 0, [], hcs, Nat.le_refl _, Nat.zero_le _, ⟨rfl, .inl rfl, fun j => by simp⟩, by intro z hz; simp at hz⟩
  · obtain ⟨r, k⟩ := rd_cells hl (by simpa using hz) hcell hwz
    exact ⟨some x, l, c, _, hcs, hl, hm, r, k⟩
theorem open_wl {b0 : Nat} {v : Value} {d : DataW H} {p : List MemPlace} (hv : Value.okWide Tryd.prog W .any b0 22 v) (h : DataW.Trod enc Tryd.prog W 0 (fun _ => true) true 22 v d p) :
    ∃ (A : Option Addr) (n c : Nat) (l : List Int), v = .slice A n c ∧ n ≤ c ∧ c ≤ maxLen ∧ Rd W A n l ∧ W32s l := by
  obtain ⟨a, len, cap, rfl⟩ := okWide_slice Tryd.underlying22 hv
  obtain ⟨fuel, hf⟩ := h
  obtain ⟨A, n, c, l, hcs, r⟩ := open_ws hf
  simp [Value.cells] at hcs
  obtain ⟨rfl, rfl, rfl⟩ := hcs
  exact ⟨_, _, _, l, rfl, r⟩
theorem mapM_words9 {m : Nat} {cs : List Value} {c : Nat} : ∀ (L : List Nat) (ys : List (DataW H × List MemPlace)),
    L.mapM (fun i => DataW.trod enc Tryd.prog W 0 (fun _ => true) true m 27 ((cs.drop (i * c)).take c)) = some ys →
    ∃ zs : List Int, L.map (fun i => (cs.drop (i * c)).take c) = zs.map (fun z => [.int .u32 z]) ∧ ∀ z ∈ zs, 0 ≤ z ∧ z < 4294967296
  | [], ys, h => ⟨[], rfl, by simp⟩
  | i :: L, ys, h => by
    rw [List.mapM_cons] at h
    simp only [bind, Option.bind_eq_some_iff, pure, Option.some.injEq] at h
    obtain ⟨y, hy, ys', hys, rfl⟩ := h
    obtain ⟨zs, hm, hw⟩ := mapM_words9 L ys' hys
    obtain ⟨a, ea, rfl, wa⟩ := DataW.trod_int Tryd.underlying27 hy
    refine ⟨a :: zs, by rw [List.map_cons, List.map_cons, hm, ea], ?_⟩
    intro z hz
    rcases List.mem_cons.1 hz with rfl | hz
    · have := bounds_u32 wa
      omega
    · exact hw z hz
theorem words_at {ls : List Value} (hn : ls.length = 16) {x : DataW H × List MemPlace} {fuel : Nat} (hf : DataW.trod enc Tryd.prog W 0 (fun _ => true) true fuel 28 ls = some x) :
    ∃ zs : List Int, (List.range 16).map (fun i => (ls.drop (i * 1)).take 1) = zs.map (fun z => [Value.int .u32 z]) ∧ ∀ z ∈ zs, 0 ≤ z ∧ z < 4294967296 := by
  cases fuel with
  | zero => simp [DataW.trod] at hf
  | succ m =>
    rw [DataW.trod_step] at hf
    unfold DataW.trodStep at hf
    simp only [Tryd.underlying28] at hf
    rw [if_pos (by rw [cA16]; exact hn)] at hf
    simp only [Option.map_eq_some_iff] at hf
    obtain ⟨ys, hy, e1⟩ := hf
    obtain ⟨zs, hm, hw⟩ := mapM_words9 _ ys hy
    rw [cU9] at hm
    exact ⟨zs, hm, hw⟩
/-- What is known of a state that came in. -/
def StOk (W : World) (A : Option Addr) (n c : Nat) (x : Mst) : Prop := (n ≤ c ∧ c ≤ maxLen ∧ Rd W A n x.mem ∧ W32s x.mem) ∧ Wg x.g ∧ (-9223372036854775808 ≤ x.pc ∧ x.pc < 9223372036854775808) ∧ (-9223372036854775808 ≤ x.rd ∧ x.rd < 9223372036854775808) ∧ (-9223372036854775808 ≤ x.st ∧ x.st < 9223372036854775808) ∧ (-9223372036854775808 ≤ x.en ∧ x.en < 9223372036854775808) ∧ x.out.size ≤ maxLen
set_option maxRecDepth 100000 in
theorem open_im {ls : List Value} (hsz : ls.length = 2) {x : DataW H × List MemPlace} {fuel : Nat} (hf : DataW.trod enc Tryd.prog W 0 (fun _ => true) true fuel 24 ls = some x) :
    ∃ (A : Option Addr) (n c : Nat) (l : List Int) (I : Int), ls = [.slice A n c, .int .i64 I] ∧ (n ≤ c ∧ c ≤ maxLen ∧ Rd W A n l ∧ W32s l) ∧ (Lit.int .i64 I).wf = true := by
  match ls, hsz with
  | [e0, e1], _ =>
    obtain ⟨xs, n, _, _, _, hlen, hg⟩ := DataW.trod_struct Tryd.underlying24 hf
    have hxl : xs.length = 2 := hlen
    match xs, hxl with
    | [(t0, p0), (t1, p1)], _ =>
      have g0 : DataW.trod enc Tryd.prog W 0 (fun _ => true) true n 22 (([e0, e1].drop 0).take (Tryd.prog.cellsOf 22)) = some (t0, p0) := hg 0 _ rfl
      rw [cWs] at g0
      have g0 : DataW.trod enc Tryd.prog W 0 (fun _ => true) true n 22 [e0] = some (t0, p0) := g0
      obtain ⟨A, m, c, l, q0, r0⟩ := open_ws g0
      have g1 : DataW.trod enc Tryd.prog W 0 (fun _ => true) true n 3 (([e0, e1].drop 1).take (Tryd.prog.cellsOf 3)) = some (t1, p1) := hg 1 _ rfl
      rw [cInt] at g1
      have g1 : DataW.trod enc Tryd.prog W 0 (fun _ => true) true n 3 [e1] = some (t1, p1) := g1
      obtain ⟨I, q1, _, o1⟩ := DataW.trod_int Tryd.underlying3 g1
      simp only [List.cons.injEq, and_true] at q0 q1
      subst q0 q1
      exact ⟨A, m, c, l, I, rfl, r0, o1⟩
set_option maxRecDepth 100000 in
set_option maxHeartbeats 1000000 in
theorem open_sl9 {ls : List Value} (hsz : ls.length = 22) {z : DataW H × List MemPlace} {fuel : Nat} (hf : DataW.trod enc Tryd.prog W 0 (fun _ => true) true fuel 30 ls = some z) :
    ∃ (A : Option Addr) (n c : Nat) (x : Mst), ls = (stc x.pc x.g (.slice A n c) x.rd x.out x.st x.en).toList ∧ StOk W A n c x := by
  match ls, hsz with
  | [e0, e1, e2, e3, e4, e5, e6, e7, e8, e9, e10, e11, e12, e13, e14, e15, e16, e17, e18, e19, e20, e21], _ =>
    obtain ⟨xs, n, _, _, _, hlen, hg⟩ := DataW.trod_struct Tryd.underlying30 hf
    have hxl : xs.length = 7 := hlen
    match xs, hxl with
    | [(t0, p0), (t1, p1), (t2, p2), (t3, p3), (t4, p4), (t5, p5), (t6, p6)], _ =>
      have g0 : DataW.trod enc Tryd.prog W 0 (fun _ => true) true n 3 (([e0, e1, e2, e3, e4, e5, e6, e7, e8, e9, e10, e11, e12, e13, e14, e15, e16, e17, e18, e19, e20, e21].drop 0).take (Tryd.prog.cellsOf 3)) = some (t0, p0) := hg 0 _ rfl
      rw [cInt] at g0
      have g0 : DataW.trod enc Tryd.prog W 0 (fun _ => true) true n 3 [e0] = some (t0, p0) := g0
      obtain ⟨I0, q0, _, o0⟩ := DataW.trod_int Tryd.underlying3 g0
      have o0 := bounds_i64 o0
      have g1 : DataW.trod enc Tryd.prog W 0 (fun _ => true) true n 28 (([e0, e1, e2, e3, e4, e5, e6, e7, e8, e9, e10, e11, e12, e13, e14, e15, e16, e17, e18, e19, e20, e21].drop 1).take (Tryd.prog.cellsOf 28)) = some (t1, p1) := hg 1 _ rfl
      rw [cA16] at g1
      have g1 : DataW.trod enc Tryd.prog W 0 (fun _ => true) true n 28 [e1, e2, e3, e4, e5, e6, e7, e8, e9, e10, e11, e12, e13, e14, e15, e16] = some (t1, p1) := g1
      obtain ⟨zs, hm, hw⟩ := words_at rfl g1
      have g2 : DataW.trod enc Tryd.prog W 0 (fun _ => true) true n 22 (([e0, e1, e2, e3, e4, e5, e6, e7, e8, e9, e10, e11, e12, e13, e14, e15, e16, e17, e18, e19, e20, e21].drop 17).take (Tryd.prog.cellsOf 22)) = some (t2, p2) := hg 2 _ rfl
      rw [cWs] at g2
      have g2 : DataW.trod enc Tryd.prog W 0 (fun _ => true) true n 22 [e17] = some (t2, p2) := g2
      obtain ⟨A, m, c, l, q2, r2⟩ := open_ws g2
      have g3 : DataW.trod enc Tryd.prog W 0 (fun _ => true) true n 3 (([e0, e1, e2, e3, e4, e5, e6, e7, e8, e9, e10, e11, e12, e13, e14, e15, e16, e17, e18, e19, e20, e21].drop 18).take (Tryd.prog.cellsOf 3)) = some (t3, p3) := hg 3 _ rfl
      rw [cInt] at g3
      have g3 : DataW.trod enc Tryd.prog W 0 (fun _ => true) true n 3 [e18] = some (t3, p3) := g3
      obtain ⟨I3, q3, _, o3⟩ := DataW.trod_int Tryd.underlying3 g3
      have o3 := bounds_i64 o3
      have g4 : DataW.trod enc Tryd.prog W 0 (fun _ => true) true n 9 (([e0, e1, e2, e3, e4, e5, e6, e7, e8, e9, e10, e11, e12, e13, e14, e15, e16, e17, e18, e19, e20, e21].drop 19).take (Tryd.prog.cellsOf 9)) = some (t4, p4) := hg 4 _ rfl
      rw [cStr] at g4
      have g4 : DataW.trod enc Tryd.prog W 0 (fun _ => true) true n 9 [e19] = some (t4, p4) := g4
      obtain ⟨S4, q4, _, o4⟩ := DataW.trod_string Tryd.underlying9 g4
      have g5 : DataW.trod enc Tryd.prog W 0 (fun _ => true) true n 3 (([e0, e1, e2, e3, e4, e5, e6, e7, e8, e9, e10, e11, e12, e13, e14, e15, e16, e17, e18, e19, e20, e21].drop 20).take (Tryd.prog.cellsOf 3)) = some (t5, p5) := hg 5 _ rfl
      rw [cInt] at g5
      have g5 : DataW.trod enc Tryd.prog W 0 (fun _ => true) true n 3 [e20] = some (t5, p5) := g5
      obtain ⟨I5, q5, _, o5⟩ := DataW.trod_int Tryd.underlying3 g5
      have o5 := bounds_i64 o5
      have g6 : DataW.trod enc Tryd.prog W 0 (fun _ => true) true n 3 (([e0, e1, e2, e3, e4, e5, e6, e7, e8, e9, e10, e11, e12, e13, e14, e15, e16, e17, e18, e19, e20, e21].drop 21).take (Tryd.prog.cellsOf 3)) = some (t6, p6) := hg 6 _ rfl
      rw [cInt] at g6
      have g6 : DataW.trod enc Tryd.prog W 0 (fun _ => true) true n 3 [e21] = some (t6, p6) := g6
      obtain ⟨I6, q6, _, o6⟩ := DataW.trod_int Tryd.underlying3 g6
      have o6 := bounds_i64 o6
      have hm2 : [[e1], [e2], [e3], [e4], [e5], [e6], [e7], [e8], [e9], [e10], [e11], [e12], [e13], [e14], [e15], [e16]] = zs.map (fun z => [Value.int .u32 z]) := hm
      match zs, hm2 with
      | [z0, z1, z2, z3, z4, z5, z6, z7, z8, z9, z10, z11, z12, z13, z14, z15], hm2 =>
        simp only [List.map_cons, List.map_nil, List.cons.injEq, and_true] at hm2 q0 q2 q3 q4 q5 q6
        obtain ⟨rfl, rfl, rfl, rfl, rfl, rfl, rfl, rfl, rfl, rfl, rfl, rfl, rfl, rfl, rfl, rfl⟩ := hm2
        subst q0 q2 q3 q4 q5 q6
        refine ⟨A, m, c, ⟨I0, fun i => [z0, z1, z2, z3, z4, z5, z6, z7, z8, z9, z10, z11, z12, z13, z14, z15].getD i 0, l, I3, S4, I5, I6⟩, rfl, r2, fun i => ?_, (by dsimp only; omega), (by dsimp only; omega), (by dsimp only; omega), (by dsimp only; omega), o4⟩
        show 0 ≤ [z0, z1, z2, z3, z4, z5, z6, z7, z8, z9, z10, z11, z12, z13, z14, z15].getD i 0 ∧ [z0, z1, z2, z3, z4, z5, z6, z7, z8, z9, z10, z11, z12, z13, z14, z15].getD i 0 < 4294967296
        rw [List.getD_eq_getElem?_getD]
        cases hi : [z0, z1, z2, z3, z4, z5, z6, z7, z8, z9, z10, z11, z12, z13, z14, z15][i]? with
        | none => simp
        | some v => exact hw v (List.mem_of_getElem? hi)
set_option maxRecDepth 100000 in
theorem open_img {b0 : Nat} {v : Value} {d : DataW H} {p : List MemPlace} (hv : Value.okWide Tryd.prog W .any b0 24 v) (h : DataW.Trod enc Tryd.prog W 0 (fun _ => true) true 24 v d p) :
    ∃ (A : Option Addr) (n c : Nat) (l : List Int) (I : Int), v = .agg #[.slice A n c, .int .i64 I] ∧ (n ≤ c ∧ c ≤ maxLen ∧ Rd W A n l ∧ W32s l) ∧ (Lit.int .i64 I).wf = true := by
  obtain ⟨cs, rfl, hsz, _⟩ : ∃ cs, v = .agg cs ∧ cs.size = Tryd.prog.cellsOf 24 ∧ Row.okWide Tryd.prog W .any b0 24 cs := by
    simpa [Value.okWide, Tryd.underlying24] using hv
  rw [cImg] at hsz
  obtain ⟨fuel, hf⟩ := h
  obtain ⟨A, n, c, l, I, e, r⟩ := open_im (ls := cs.toList) (by simpa using hsz) (by simpa [Value.cells] using hf)
  exact ⟨A, n, c, l, I, by rw [← Array.toArray_toList (xs := cs), e], r⟩
set_option maxRecDepth 100000 in
theorem open_st {b0 : Nat} {v : Value} {d : DataW H} {p : List MemPlace} (hv : Value.okWide Tryd.prog W .any b0 30 v) (h : DataW.Trod enc Tryd.prog W 0 (fun _ => true) true 30 v d p) :
    ∃ (A : Option Addr) (n c : Nat) (x : Mst), v = .agg (stc x.pc x.g (.slice A n c) x.rd x.out x.st x.en) ∧ StOk W A n c x := by
  obtain ⟨cs, rfl, hsz, _⟩ : ∃ cs, v = .agg cs ∧ cs.size = Tryd.prog.cellsOf 30 ∧ Row.okWide Tryd.prog W .any b0 30 cs := by
    simpa [Value.okWide, Tryd.underlying30] using hv
  rw [cSt] at hsz
  obtain ⟨fuel, hf⟩ := h
  obtain ⟨A, n, c, x, e, r⟩ := open_sl9 (ls := cs.toList) (by simpa using hsz) (by simpa [Value.cells] using hf)
  exact ⟨A, n, c, x, by rw [← Array.toArray_toList (xs := cs), e], r⟩
set_option maxRecDepth 100000 in
set_option maxHeartbeats 1000000 in
theorem open_ask9 {b0 : Nat} {v : Value} {d : DataW H} {p : List MemPlace} (hv : Value.okWide Tryd.prog W .any b0 34 v) (h : DataW.Trod enc Tryd.prog W 0 (fun _ => true) true 34 v d p) :
    ∃ (B : Option Addr) (m k : Nat) (code : List Int) (I : Int) (inp : ByteArray) (A : Option Addr) (n c : Nat) (x : Mst), v = .agg (#[.slice B m k, .int .i64 I, .string inp] ++ stc x.pc x.g (.slice A n c) x.rd x.out x.st x.en) ∧ (m ≤ k ∧ k ≤ maxLen ∧ Rd W B m code ∧ W32s code) ∧ (Lit.int .i64 I).wf = true ∧ inp.size ≤ maxLen ∧ StOk W A n c x := by
  obtain ⟨cs, rfl, hsz, _⟩ : ∃ cs, v = .agg cs ∧ cs.size = Tryd.prog.cellsOf 34 ∧ Row.okWide Tryd.prog W .any b0 34 cs := by
    simpa [Value.okWide, Tryd.underlying34] using hv
  rw [cAsk9] at hsz
  obtain ⟨fuel, hf⟩ := h
  obtain ⟨ls⟩ := cs
  match ls, hsz with
  | f0 :: f1 :: f2 :: rest, hsz =>
    have hrl : rest.length = 22 := by simp at hsz; omega
    have hf2 : DataW.trod enc Tryd.prog W 0 (fun _ => true) true fuel 34 (f0 :: f1 :: f2 :: rest) = some (d, p) := by simpa [Value.cells] using hf
    obtain ⟨xs, n, _, _, _, hlen, hg⟩ := DataW.trod_struct Tryd.underlying34 hf2
    have hxl : xs.length = 3 := hlen
    match xs, hxl with
    | [(t0, p0), (t1, p1), (t2, p2)], _ =>
      have g0 : DataW.trod enc Tryd.prog W 0 (fun _ => true) true n 24 (((f0 :: f1 :: f2 :: rest).drop 0).take (Tryd.prog.cellsOf 24)) = some (t0, p0) := hg 0 _ rfl
      rw [cImg] at g0
      have g0 : DataW.trod enc Tryd.prog W 0 (fun _ => true) true n 24 [f0, f1] = some (t0, p0) := g0
      obtain ⟨B, m, k, code, I, e0, r0, w0⟩ := open_im rfl g0
      have g1 : DataW.trod enc Tryd.prog W 0 (fun _ => true) true n 9 (((f0 :: f1 :: f2 :: rest).drop 2).take (Tryd.prog.cellsOf 9)) = some (t1, p1) := hg 1 _ rfl
      rw [cStr] at g1
      have g1 : DataW.trod enc Tryd.prog W 0 (fun _ => true) true n 9 [f2] = some (t1, p1) := g1
      obtain ⟨inp, e1, _, s1⟩ := DataW.trod_string Tryd.underlying9 g1
      have g2 : DataW.trod enc Tryd.prog W 0 (fun _ => true) true n 30 (((f0 :: f1 :: f2 :: rest).drop 3).take (Tryd.prog.cellsOf 30)) = some (t2, p2) := hg 2 _ rfl
      rw [cSt] at g2
      have g2 : DataW.trod enc Tryd.prog W 0 (fun _ => true) true n 30 (rest.take 22) = some (t2, p2) := g2
      rw [List.take_of_length_le (by omega)] at g2
      obtain ⟨A, n2, c, x, e2, r2⟩ := open_sl9 hrl g2
      simp only [List.cons.injEq, and_true] at e0 e1
      obtain ⟨rfl, rfl⟩ := e0
      subst e1
      refine ⟨B, m, k, code, I, inp, A, n2, c, x, ?_, r0, w0, s1, r2⟩
      rw [e2]
      refine congrArg Value.agg (Array.toList_inj.1 ?_)
      rw [Array.toList_append]
      rfl
end
end Go.Proofs.YtgojpflkhnaedaaDoor
