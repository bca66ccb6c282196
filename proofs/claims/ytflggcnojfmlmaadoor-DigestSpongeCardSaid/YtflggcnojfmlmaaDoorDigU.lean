/- The law Sponge's own bytes: a row that a conversion made, and what is appended to it. -/
import Derived.Test.YtflggcnojfmlmaaDoorDigG
import Derived.Lib.ConvBytes
import Derived.Deep.Upon
set_option linter.unusedVariables false
namespace Go.Proofs.YtflggcnojfmlmaaDoor
open Go.RowKit

/-- The bytes of a text, as cells. -/
def bcs (s : ByteArray) : List Value := s.data.toList.map fun b => Value.int .u8 b.toNat
theorem length_bcs (s : ByteArray) : (bcs s).length = s.size := by simp [bcs]
theorem size_conv (w : World) (e : TypeId) (s : ByteArray) : (Lib.bytesCells w e s).size = s.size + (grownCap w s.size 0 e - s.size) := by
  simp [Lib.bytesCells]
theorem came_bytes (w : World) (e : TypeId) (s : ByteArray) :
    Came (Lib.bytesWorld w e s) 1 (some ⟨w.heap.size, 0, none⟩) w.heap.size 0 s.size (grownCap w s.size 0 e) (bcs s) := by
  refine ⟨grownCap_ge w s.size 0 e, fun _ => rfl, fun _ => by rw [Lib.bytesWorld_size]; omega, by rw [length_bcs]; omega, ?_, ?_⟩
  · intro j u hu
    have hj : j < s.size := by have := (List.getElem?_eq_some_iff.1 hu).1; rwa [length_bcs] at this
    rw [Nat.zero_add, Lib.bytesWorld_cell w e s j hj, ← hu]
    have hj' : j < s.data.toList.length := by simpa using hj
    rw [bcs, List.getElem?_map, List.getElem?_eq_getElem hj', List.getD_eq_getElem?_getD, List.getElem?_eq_getElem hj']
    rfl
  · intro j hj
    have hn := Lib.bytesWorld_at_new w e s
    have hs := size_conv w e s
    have hlt : 0 + s.size * 1 + j < (Lib.bytesCells w e s).size := by omega
    constructor
    · simp only [World.cell?, hn]
      simp
      omega
    · simp only [World.frozen?, hn]
      simp
      omega
/-- What a world keeps that was there: as Below, but of no tape. -/
theorem kept_bytes (w : World) (e : TypeId) (s : ByteArray) : w.keptBut (Lib.bytesWorld w e s) (fun _ => False) := by
  refine ⟨rfl, rfl, fun i hi => ?_⟩
  rw [Lib.bytesWorld_at_old w e s i hi]
  split <;> simp_all
theorem kept_upon {w W : World} {e : TypeId} {s : ByteArray} {v : Value} {m r : Nat} {ks : List Value}
    (h : Upon (Lib.bytesWorld w e s) e 1 (some ⟨w.heap.size, 0, none⟩) w.heap.size 0 s.size (grownCap w s.size 0 e) (bcs s) W v m ks r) :
    ∀ i, i < w.heap.size → W.heap[i]? = w.heap[i]? := by
  intro i hi
  rw [h.kept.block (by rw [Lib.bytesWorld_size]; omega) (fun p ⟨j, _, hp⟩ => by subst hp; simp [MemPlace.block]; omega)]
  exact Lib.bytesWorld_at_old w e s i hi
/-- What was there is there; of the tape nothing is said. -/
structure Low (w W : World) : Prop where
  os : W.os = w.os
  output : W.output = w.output
  size : w.heap.size ≤ W.heap.size
  block : ∀ k, k < w.heap.size → W.heap[k]? = w.heap[k]?
theorem Low.frame {w W : World} (h : Low w W) (may : MemPlace → Prop) : w.keptBut W may := by
  refine ⟨h.os, h.output, fun i hi => ?_⟩
  rw [h.block i hi]
  split <;> simp_all
theorem Low.below {w W W' : World} (h : Low w W) (hb : Below W.heap.size W W') : Low w W' :=
  ⟨hb.os.trans h.os, hb.output.trans h.output, Nat.le_trans h.size hb.size, fun k hk => (hb.block k (Nat.lt_of_lt_of_le hk h.size)).trans (h.block k hk)⟩
theorem low_of_below {w W : World} (hb : Below w.heap.size w W) : Low w W := ⟨hb.os, hb.output, hb.size, hb.block⟩
theorem low_upon {w W : World} {e : TypeId} {s : ByteArray} {v : Value} {m r : Nat} {ks : List Value} {cap n : Nat}
    (h : Upon (Lib.bytesWorld w e s) e 1 (some ⟨w.heap.size, 0, none⟩) w.heap.size 0 n cap (bcs s) W v m ks r) : Low w W := by
  refine ⟨h.kept.1, h.kept.2.1, ?_, fun i hi => ?_⟩
  · have := h.kept.size
    rw [Lib.bytesWorld_size] at this
    omega
  · rw [h.kept.block (by rw [Lib.bytesWorld_size]; omega) (fun p ⟨j, _, hp⟩ => by subst hp; simp [MemPlace.block]; omega)]
    exact Lib.bytesWorld_at_old w e s i hi
theorem tab_blocks {W W' : World} {s : String} {k : IntKind} {zs : List Int} {g : Nat} (hg : Tryd.prog.globalNamed s = some g) (h : Lib.TabIs Tryd.prog W s k zs) (hb : ∀ k, k < W.heap.size → W'.heap[k]? = W.heap[k]?) : Lib.TabIs Tryd.prog W' s k zs := by
  have hlt := tab_lt hg h
  unfold Lib.TabIs World.var? at *
  rw [hg] at *
  simp only [Option.bind_some] at h ⊢
  rw [hb _ hlt]
  exact h
theorem Tabs.low {W W' : World} (h : Tabs W) (hl : Low W W') : Tabs W' where
  dig := tab_blocks gDig h.dig hl.block
  val := tab_blocks gVal h.val hl.block
  trn := tab_blocks gTrn h.trn hl.block

/-- The bytes of the blocks: the string's, the mark, noughts, how many there are. -/
def spb (s : ByteArray) (z : Nat) : List Int := nums (pd s z) ++ bytsAll [(s.size : Int), 0]
theorem length_spb (s : ByteArray) (z : Nat) : (spb s z).length = s.size + 1 + (z + 8) := by
  unfold spb
  rw [List.length_append, length_nums, size_pd, length_bytsAll]
  rfl
theorem spb_byte (s : ByteArray) (z : Nat) (hn : s.size ≤ 300) : ∀ x ∈ spb s z, 0 ≤ x ∧ x < 256 := by
  intro x hx
  unfold spb at hx
  rcases List.mem_append.1 hx with h | h
  · exact nums_byte _ x h
  · exact bytsAll_byte [(s.size : Int), 0] (by
      intro y hy
      simp only [List.mem_cons, List.not_mem_nil, or_false] at hy
      rcases hy with rfl | rfl
      · omega
      · omega) x h
theorem spb_cells (s : ByteArray) (z : Nat) (hn : s.size ≤ 300) :
    bcs (s ++ (⟨#[128]⟩ : ByteArray)) ++ (List.replicate z (.int .u8 0) ++ [.int .u8 ((s.size : Int) % 256), .int .u8 ((s.size : Int) / 256), .int .u8 0, .int .u8 0, .int .u8 0, .int .u8 0, .int .u8 0, .int .u8 0]) = (spb s z).map (Value.int .u8) := by
  unfold spb pd
  rw [nums_append, List.map_append, List.map_append, List.append_assoc]
  have e1 : bcs (s ++ (⟨#[128]⟩ : ByteArray)) = (nums (s ++ (⟨#[128]⟩ : ByteArray))).map (Value.int .u8) := by
    unfold bcs nums
    rw [List.map_map]
    rfl
  have e2 : (nums (⟨(Lib.repeatL [0] z).toArray⟩ : ByteArray)).map (Value.int .u8) = List.replicate z (.int .u8 0) := by
    unfold nums
    rw [repeatL_rep]
    simp
  have e3 : (bytsAll [(s.size : Int), 0]).map (Value.int .u8) = [.int .u8 ((s.size : Int) % 256), .int .u8 ((s.size : Int) / 256), .int .u8 0, .int .u8 0, .int .u8 0, .int .u8 0, .int .u8 0, .int .u8 0] := by
    obtain ⟨n, hnn⟩ : ∃ n, s.size = n := ⟨_, rfl⟩
    rw [hnn] at hn ⊢
    have h1 : (n : Int) / 256 % 256 = (n : Int) / 256 := by omega
    have h2 : (n : Int) / 65536 % 256 = 0 := by omega
    have h3 : (n : Int) / 16777216 = 0 := by omega
    simp [bytsAll, byts, h1, h2, h3]
  rw [e1, e2, e3]
theorem wdsL_spb (s : ByteArray) (hn : s.size ≤ 300) : dof s = (tkAll one8 (wdsL (spb s ((23 - s.size % 16) % 16)))).take 4 := by
  rw [dof_all s hn]
  unfold spb
  have hpl : (nums (pd s ((23 - s.size % 16) % 16))).length = 4 * ((s.size + 1 + (23 - s.size % 16) % 16) / 4) := by rw [length_nums, size_pd]; omega
  rw [wdsL_append _ _ _ hpl, wdsL_bytsAll]
  intro y hy
  simp only [List.mem_cons, List.not_mem_nil, or_false] at hy
  rcases hy with rfl | rfl
  · omega
  · omega

/-- A word of which the first bytes are in. -/
def pw (b : Nat → Int) (i k : Nat) : Int :=
  (if 4 * i < k then b (4 * i) else 0) + (if 4 * i + 1 < k then b (4 * i + 1) else 0) * 256 + ((if 4 * i + 2 < k then b (4 * i + 2) else 0) + (if 4 * i + 3 < k then b (4 * i + 3) else 0) * 256) * 65536
theorem pw_zero (b : Nat → Int) (i : Nat) : pw b i 0 = 0 := by simp [pw]
theorem or_at (x y P : Int) (i : Nat) (hi : i < 32) (hP : (2 : Int) ^ i = P) (x0 : 0 ≤ x) (x1 : x < P) (y0 : 0 ≤ y) (y1 : y * P < 4294967296) : bits .or .u32 x (y * P) = x + y * P := by
  subst hP
  exact or_add x y i hi x0 x1 y0 y1
/-- What the outer loop keeps. -/
structure Sq (w W : World) (N g o : Nat) (l K : Ws) : Prop where
  ha : W.heap[N]? = some (.cells (l.map (Value.int .u32)).toArray 26 (0, 0))
  hs : ∀ (j : Nat) (v : Int), K[j]? = some v → W.cell? ⟨g, o + j, none⟩ = some (.int .u8 v)
  be : Below w.heap.size w W
  gN : g < N
  wN : w.heap.size ≤ N
  NW : N < W.heap.size
theorem Sq.after {w W W' : World} {N g o : Nat} {l K : Ws} (h : Sq w W N g o l K) (hb : Below W.heap.size W W') : Sq w W' N g o l K :=
  ⟨by rw [hb.block _ h.NW]; exact h.ha,
   fun j v hv => by rw [hb.cell (p := ⟨g, o + j, none⟩) (by have := h.gN; have := h.NW; simp; omega)]; exact h.hs j v hv,
   h.be.trans (hb.mono h.be.size), h.gN, h.wN, Nat.lt_of_lt_of_le h.NW hb.size⟩
theorem Sq.drew {w W : World} {N g o : Nat} {l K : Ws} (h : Sq w W N g o l K) : Sq w W.drew N g o l K := ⟨h.ha, h.hs, h.be.drew, h.gN, h.wN, h.NW⟩
theorem Sq.set {w W : World} {N g o : Nat} {l K : Ws} (h : Sq w W N g o l K) (i : Nat) (v : Int) : Sq w (W.setCell ⟨N, i, none⟩ (.int .u32 v)) N g o (l.set i v) K := by
  have h1 := h.gN
  refine ⟨?_, ?_, h.be.setCell h.wN _, h.gN, h.wN, by simpa using h.NW⟩
  · rw [heap_setCell_same W _ i _ _ _ h.ha]
    simp [List.map_set]
  · intro j u hu
    rw [World.cell?_of_block (w := W) (heap_setCell_other _ _ _ _ (by simp; omega))]
    exact h.hs j u hu
/-- What the inner loop keeps. -/
structure Sr (w W : World) (N g o : Nat) (l K : Ws) (m : Nat) (b : Nat → Int) (k : Nat) : Prop extends Sq w W N g o l K where
  hm : W.heap[m]? = some (.cells #[.int .u32 (pw b 0 k), .int .u32 (pw b 1 k), .int .u32 (pw b 2 k), .int .u32 (pw b 3 k)] 27 (0, 0))
  Nm : N < m
  mW : m < W.heap.size
theorem Sr.start {w W : World} {N g o : Nat} {l K : Ws} (h : Sq w W N g o l K) (b : Nat → Int) : Sr w (W.alloc (.cells #[.int .u32 0, .int .u32 0, .int .u32 0, .int .u32 0] 27)) N g o l K W.heap.size b 0 :=
  ⟨h.after ((Below.refl _ _).alloc (Nat.le_refl _) _), by simp only [pw_zero]; exact heap_alloc_new _ _, h.NW, by simp⟩
theorem Sr.drew {w W : World} {N g o : Nat} {l K : Ws} {m : Nat} {b : Nat → Int} {k : Nat} (h : Sr w W N g o l K m b k) : Sr w W.drew N g o l K m b k := ⟨h.toSq.drew, h.hm, h.Nm, h.mW⟩
theorem Sr.set {w W : World} {N g o : Nat} {l K : Ws} {m : Nat} {b : Nat → Int} {k : Nat} (h : Sr w W N g o l K m b k) (i : Nat) (v : Value) (k' : Nat)
    (hv : (#[.int .u32 (pw b 0 k), .int .u32 (pw b 1 k), .int .u32 (pw b 2 k), .int .u32 (pw b 3 k)] : Array Value).setIfInBounds i v = #[.int .u32 (pw b 0 k'), .int .u32 (pw b 1 k'), .int .u32 (pw b 2 k'), .int .u32 (pw b 3 k')]) :
    Sr w (W.setCell ⟨m, i, none⟩ v) N g o l K m b k' := by
  have h1 := h.gN
  have h2 := h.Nm
  have h3 := h.wN
  refine ⟨⟨?_, ?_, h.be.setCell (by simp; omega) _, h.gN, h.wN, by simpa using h.NW⟩, ?_, h.Nm, by simpa using h.mW⟩
  · rw [heap_setCell_other _ _ _ _ (by simp; omega)]; exact h.ha
  · intro j u hu
    rw [World.cell?_of_block (w := W) (heap_setCell_other _ _ _ _ (by simp; omega))]
    exact h.hs j u hu
  · rw [heap_setCell_same W m i _ _ v h.hm, hv]
/-- What the law's last row keeps. -/
structure Sl (w W : World) (N : Nat) (B : Obj) : Prop where
  ha : W.heap[N]? = some B
  lo : Low w W
  NW : N < W.heap.size
theorem Sl.after {w W W' : World} {N : Nat} {B : Obj} (h : Sl w W N B) (hb : Below W.heap.size W W') : Sl w W' N B :=
  ⟨by rw [hb.block _ h.NW]; exact h.ha, h.lo.below hb, Nat.lt_of_lt_of_le h.NW hb.size⟩
theorem Sl.drew {w W : World} {N : Nat} {B : Obj} (h : Sl w W N B) : Sl w W.drew N B := h.after (Below.refl _ _).drew
theorem allSp {w W : World} {N : Nat} {x0 x1 x2 x3 x4 x5 x6 x7 : Int} (h : Sl w W N (.cells #[.int .u32 x0, .int .u32 x1, .int .u32 x2, .int .u32 x3, .int .u32 x4, .int .u32 x5, .int .u32 x6, .int .u32 x7] 26 (0, 0))) :
    Sl w W N (.cells #[.int .u32 x0, .int .u32 x1, .int .u32 x2, .int .u32 x3, .int .u32 x4, .int .u32 x5, .int .u32 x6, .int .u32 x7] 26 (0, 0)) ∧ W.cell? ⟨N, 0, none⟩ = some (.int .u32 x0) ∧ W.cell? ⟨N, 1, none⟩ = some (.int .u32 x1) ∧ W.cell? ⟨N, 2, none⟩ = some (.int .u32 x2) ∧ W.cell? ⟨N, 3, none⟩ = some (.int .u32 x3) := by
  obtain ⟨r0, r1, r2, r3, _⟩ := cells8 h.ha
  exact ⟨h, r0, r1, r2, r3⟩
end Go.Proofs.YtflggcnojfmlmaaDoor
