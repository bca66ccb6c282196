/- The reference of layer 3: the contract of its Parse. -/
import Derived.Test.YtaogndcaabnboaaDoorDigY
set_option linter.unusedVariables false
namespace Go.Proofs.YtaogndcaabnboaaDoor
open Go.RowKit

/-- The number of a word's first n bytes. -/
def pt (a b c d : Int) : Nat → Int
  | 0 => 0
  | 1 => a
  | 2 => a * 256 + b
  | 3 => (a * 256 + b) * 256 + c
  | _ => ((a * 256 + b) * 256 + c) * 256 + d
def By (x : Int) : Prop := 0 ≤ x ∧ x < 256
theorem pt_bd {a b c d : Int} (ha : By a) (hb : By b) (hc : By c) (n : Nat) (hn : n < 4) : 0 ≤ pt a b c d n ∧ pt a b c d n < 16777216 := by
  obtain ⟨a0, a1⟩ := ha
  obtain ⟨b0, b1⟩ := hb
  obtain ⟨c0, c1⟩ := hc
  match n, hn with
  | 0, _ => simp [pt]
  | 1, _ => simp only [pt]; omega
  | 2, _ => simp only [pt]; omega
  | 3, _ => simp only [pt]; omega
theorem rv_pt {a b c d : Int} (ha : By a) (hb : By b) (hc : By c) (hd : By d) : rv (a + b * 256 + (c + d * 256) * 65536) = pt a b c d 4 := by
  rw [show a + b * 256 + (c + d * 256) * 65536 = a + b * 256 + c * 65536 + d * 16777216 by omega, rv_digs ha hb hc hd]
  simp only [pt]; omega
theorem nat_or_low (x y : Nat) (hy : y < 256) : x * 256 ||| y = x * 256 + y := by
  rw [Nat.or_comm, nat_or_256 y x hy]; omega
theorem or_byte (x c : Int) (h : 0 ≤ x ∧ x < 16777216) (k : By c) : bits .or .u32 (x * 256 % 4294967296) c = x * 256 + c := by
  obtain ⟨c0, c1⟩ := k
  obtain ⟨x0, x1⟩ := h
  rw [or_u32 _ _ (by omega) (by omega) c0 (by omega), show (x * 256 % 4294967296).toNat = x.toNat * 256 by omega, nat_or_low _ _ (by omega)]
  omega
theorem or_byte' (x c : Int) (h : 0 ≤ x ∧ x < 16777216) (k : By c) : bits .or .u32 (x * 256 % 4294967296) (c % 4294967296) = x * 256 + c := by
  rw [show c % 4294967296 = c by have := k.1; have := k.2; omega]
  exact or_byte x c h k
theorem R1.set {w W : World} (h : R1 w W) {n : Nat} (hn : w.heap.size < n) (i : Nat) (v : Value) : R1 w (W.setCell ⟨n, i, none⟩ v) :=
  ⟨by rw [heap_setCell_other _ _ _ _ (by simp; omega)]; exact h.hz, h.be.setCell (by simp; omega) _, by simp; exact h.sz⟩
theorem R1.drew {w W : World} (h : R1 w W) : R1 w W.drew := ⟨h.hz, h.be.drew, h.sz⟩

set_option maxHeartbeats 800000 in
theorem dparse_bad1 (t : ByteArray) (w : World) (hs : t.size ≤ 1073741824) (h : nd t.data.toList < t.size ∨ nd t.data.toList % 2 ≠ 0) :
    Calls Tryd.prog 23 #[.string t] w fun e w' => e = .returned (.tuple #[.agg #[.int .u32 0, .int .u32 0, .int .u32 0, .int .u32 0], .int .i64 3]) ∧ Below w.heap.size w w' := by
  have HR := Lib.hid (R1.new w)
  have c1 := fun w => parse_ref_bad t w hs h
  obtain ⟨n, hn2⟩ : ∃ n, nd t.data.toList = n := ⟨_, rfl⟩
  rw [hn2] at c1
  have C1 := Lib.hid c1
  clear c1 h hn2
  go_enter Tryd.func23, Tryd.ntmps23
  go_wp2_with fail
  refine (C1.out _).mono ?_
  rintro e w2 ⟨rfl, b2⟩
  replace HR := Lib.hid (HR.out.after b2)
  obtain ⟨c0, c1, c2, c3, d0, d1, d2, d3⟩ := cells4 HR.out.hz
  clear b2
  go_wp2
  exact bodyPost_ret (v := .tuple #[.agg #[.int .u32 0, .int .u32 0, .int .u32 0, .int .u32 0], .int .i64 3]) (by
    obtain ⟨k0, k1, k2, k3, _⟩ := cells4 (row4 HR.out.hz (.int .u32 0) (.int .u32 0) (.int .u32 0) (.int .u32 0))
    simp [results, go_sem, k0, k1, k2, k3]) rfl ⟨rfl, below_row4 HR.out.be (Nat.le_refl _) _ _ _ _⟩
set_option maxHeartbeats 800000 in
theorem dparse_bad2 (t : ByteArray) (w : World) (hs : t.size ≤ 1073741824) (h : nd t.data.toList = t.size) (h2 : t.size % 2 = 0) (h3 : t.size ≠ 32) :
    Calls Tryd.prog 23 #[.string t] w fun e w' => e = .returned (.tuple #[.agg #[.int .u32 0, .int .u32 0, .int .u32 0, .int .u32 0], .int .i64 3]) ∧ Below w.heap.size w w' := by
  have HR := Lib.hid (R1.new w)
  have c1 := fun w => parse_ref_ok t w hs h h2
  have hl := load_full t.data.toList (by rw [list_size]; omega)
  rw [list_size] at hl
  obtain ⟨S, hS⟩ : ∃ S : ByteArray, (⟨(load t.data.toList).toArray⟩ : ByteArray) = S := ⟨_, rfl⟩
  have hSs : S.size ≠ 16 := by rw [← hS, size_mk]; omega
  have e1 : ((S.size : Int) != 16) = true := by rw [bne_iff_ne]; omega
  rw [hS] at c1
  have C1 := Lib.hid c1
  clear c1 h h2 h3 hl hS hSs
  go_enter Tryd.func23, Tryd.ntmps23
  go_wp2_with fail
  refine (C1.out _).mono ?_
  rintro e w2 ⟨rfl, b2⟩
  replace HR := Lib.hid (HR.out.after b2)
  obtain ⟨c0, c1, c2, c3, d0, d1, d2, d3⟩ := cells4 HR.out.hz
  clear b2
  go_wp2
  exact bodyPost_ret (v := .tuple #[.agg #[.int .u32 0, .int .u32 0, .int .u32 0, .int .u32 0], .int .i64 3]) (by
    obtain ⟨k0, k1, k2, k3, _⟩ := cells4 (row4 HR.out.hz (.int .u32 0) (.int .u32 0) (.int .u32 0) (.int .u32 0))
    simp [results, go_sem, k0, k1, k2, k3]) rfl ⟨rfl, below_row4 HR.out.be (Nat.le_refl _) _ _ _ _⟩

set_option maxHeartbeats 4000000 in
theorem dparse_good (t : ByteArray) (w : World) (h : t.size = 32) (h2 : nd t.data.toList = 32) :
    Calls Tryd.prog 23 #[.string t] w fun e w' => e = .returned (.tuple #[ag ((wdsL (nums ⟨(load t.data.toList).toArray⟩)).map rv), .int .i64 0]) ∧ Below w.heap.size w w' := by
  have HR := Lib.hid (R1.new w)
  have hl : t.data.toList.length = 32 := by rw [list_size]; exact h
  have c1 := fun w => parse_ref_ok t w (by omega) (by omega) (by omega)
  have hsz : (⟨(load t.data.toList).toArray⟩ : ByteArray).size = 16 := by rw [size_mk, load16 hl h2]
  obtain ⟨S, hS⟩ : ∃ S : ByteArray, (⟨(load t.data.toList).toArray⟩ : ByteArray) = S := ⟨_, rfl⟩
  rw [hS] at c1 hsz ⊢
  have C1 := Lib.hid c1
  clear c1 h h2 hl hS
  have hsI : (S.size : Int) = 16 := by omega
  have e1 : ((S.size : Int) != 16) = false := by rw [hsI]; rfl
  have s0 : 0 < S.size := by omega
  obtain ⟨c0, hh0⟩ : ∃ c : Int, (S[0].toNat : Int) = c := ⟨_, rfl⟩
  have g0 : By c0 := by rw [← hh0]; exact byte_bd _
  have s1 : 1 < S.size := by omega
  obtain ⟨c1, hh1⟩ : ∃ c : Int, (S[1].toNat : Int) = c := ⟨_, rfl⟩
  have g1 : By c1 := by rw [← hh1]; exact byte_bd _
  have s2 : 2 < S.size := by omega
  obtain ⟨c2, hh2⟩ : ∃ c : Int, (S[2].toNat : Int) = c := ⟨_, rfl⟩
  have g2 : By c2 := by rw [← hh2]; exact byte_bd _
  have s3 : 3 < S.size := by omega
  obtain ⟨c3, hh3⟩ : ∃ c : Int, (S[3].toNat : Int) = c := ⟨_, rfl⟩
  have g3 : By c3 := by rw [← hh3]; exact byte_bd _
  have s4 : 4 < S.size := by omega
  obtain ⟨c4, hh4⟩ : ∃ c : Int, (S[4].toNat : Int) = c := ⟨_, rfl⟩
  have g4 : By c4 := by rw [← hh4]; exact byte_bd _
  have s5 : 5 < S.size := by omega
  obtain ⟨c5, hh5⟩ : ∃ c : Int, (S[5].toNat : Int) = c := ⟨_, rfl⟩
  have g5 : By c5 := by rw [← hh5]; exact byte_bd _
  have s6 : 6 < S.size := by omega
  obtain ⟨c6, hh6⟩ : ∃ c : Int, (S[6].toNat : Int) = c := ⟨_, rfl⟩
  have g6 : By c6 := by rw [← hh6]; exact byte_bd _
  have s7 : 7 < S.size := by omega
  obtain ⟨c7, hh7⟩ : ∃ c : Int, (S[7].toNat : Int) = c := ⟨_, rfl⟩
  have g7 : By c7 := by rw [← hh7]; exact byte_bd _
  have s8 : 8 < S.size := by omega
  obtain ⟨c8, hh8⟩ : ∃ c : Int, (S[8].toNat : Int) = c := ⟨_, rfl⟩
  have g8 : By c8 := by rw [← hh8]; exact byte_bd _
  have s9 : 9 < S.size := by omega
  obtain ⟨c9, hh9⟩ : ∃ c : Int, (S[9].toNat : Int) = c := ⟨_, rfl⟩
  have g9 : By c9 := by rw [← hh9]; exact byte_bd _
  have s10 : 10 < S.size := by omega
  obtain ⟨c10, hh10⟩ : ∃ c : Int, (S[10].toNat : Int) = c := ⟨_, rfl⟩
  have g10 : By c10 := by rw [← hh10]; exact byte_bd _
  have s11 : 11 < S.size := by omega
  obtain ⟨c11, hh11⟩ : ∃ c : Int, (S[11].toNat : Int) = c := ⟨_, rfl⟩
  have g11 : By c11 := by rw [← hh11]; exact byte_bd _
  have s12 : 12 < S.size := by omega
  obtain ⟨c12, hh12⟩ : ∃ c : Int, (S[12].toNat : Int) = c := ⟨_, rfl⟩
  have g12 : By c12 := by rw [← hh12]; exact byte_bd _
  have s13 : 13 < S.size := by omega
  obtain ⟨c13, hh13⟩ : ∃ c : Int, (S[13].toNat : Int) = c := ⟨_, rfl⟩
  have g13 : By c13 := by rw [← hh13]; exact byte_bd _
  have s14 : 14 < S.size := by omega
  obtain ⟨c14, hh14⟩ : ∃ c : Int, (S[14].toNat : Int) = c := ⟨_, rfl⟩
  have g14 : By c14 := by rw [← hh14]; exact byte_bd _
  have s15 : 15 < S.size := by omega
  obtain ⟨c15, hh15⟩ : ∃ c : Int, (S[15].toNat : Int) = c := ⟨_, rfl⟩
  have g15 : By c15 := by rw [← hh15]; exact byte_bd _
  have hn : nums S = [c0, c1, c2, c3, c4, c5, c6, c7, c8, c9, c10, c11, c12, c13, c14, c15] := by
    apply List.ext_getElem (by rw [length_nums, hsz]; rfl)
    intro i hi1 hi2
    rw [length_nums, hsz] at hi1
    have e : (nums S)[i] = (nums S).getD i 0 := by rw [List.getD, List.getElem?_eq_getElem]; rfl
    rw [e]
    match i, hi1 with
    | 0, _ => rw [nums_getD S 0 s0, hh0]; rfl
    | 1, _ => rw [nums_getD S 1 s1, hh1]; rfl
    | 2, _ => rw [nums_getD S 2 s2, hh2]; rfl
    | 3, _ => rw [nums_getD S 3 s3, hh3]; rfl
    | 4, _ => rw [nums_getD S 4 s4, hh4]; rfl
    | 5, _ => rw [nums_getD S 5 s5, hh5]; rfl
    | 6, _ => rw [nums_getD S 6 s6, hh6]; rfl
    | 7, _ => rw [nums_getD S 7 s7, hh7]; rfl
    | 8, _ => rw [nums_getD S 8 s8, hh8]; rfl
    | 9, _ => rw [nums_getD S 9 s9, hh9]; rfl
    | 10, _ => rw [nums_getD S 10 s10, hh10]; rfl
    | 11, _ => rw [nums_getD S 11 s11, hh11]; rfl
    | 12, _ => rw [nums_getD S 12 s12, hh12]; rfl
    | 13, _ => rw [nums_getD S 13 s13, hh13]; rfl
    | 14, _ => rw [nums_getD S 14 s14, hh14]; rfl
    | 15, _ => rw [nums_getD S 15 s15, hh15]; rfl
    | n + 16, h => omega
  have hres : (wdsL (nums S)).map rv = [pt c0 c1 c2 c3 4, pt c4 c5 c6 c7 4, pt c8 c9 c10 c11 4, pt c12 c13 c14 c15 4] := by
    rw [hn]
    simp only [wdsL, List.map_cons, List.map_nil]
    rw [rv_pt g0 g1 g2 g3, rv_pt g4 g5 g6 g7, rv_pt g8 g9 g10 g11, rv_pt g12 g13 g14 g15]
  rw [hres]
  show Calls Tryd.prog 23 #[.string t] w fun e w' => e = .returned (.tuple #[ag [pt c0 c1 c2 c3 4, pt c4 c5 c6 c7 4, pt c8 c9 c10 c11 4, pt c12 c13 c14 c15 4], .int .i64 0]) ∧ Below w.heap.size w w'
  rw [ag4]
  have G0 := Lib.hid g0
  have H0 := Lib.hid hh0
  have G1 := Lib.hid g1
  have H1 := Lib.hid hh1
  have G2 := Lib.hid g2
  have H2 := Lib.hid hh2
  have G3 := Lib.hid g3
  have H3 := Lib.hid hh3
  have G4 := Lib.hid g4
  have H4 := Lib.hid hh4
  have G5 := Lib.hid g5
  have H5 := Lib.hid hh5
  have G6 := Lib.hid g6
  have H6 := Lib.hid hh6
  have G7 := Lib.hid g7
  have H7 := Lib.hid hh7
  have G8 := Lib.hid g8
  have H8 := Lib.hid hh8
  have G9 := Lib.hid g9
  have H9 := Lib.hid hh9
  have G10 := Lib.hid g10
  have H10 := Lib.hid hh10
  have G11 := Lib.hid g11
  have H11 := Lib.hid hh11
  have G12 := Lib.hid g12
  have H12 := Lib.hid hh12
  have G13 := Lib.hid g13
  have H13 := Lib.hid hh13
  have G14 := Lib.hid g14
  have H14 := Lib.hid hh14
  have G15 := Lib.hid g15
  have H15 := Lib.hid hh15
  clear hn hres hsz g0 hh0 g1 hh1 g2 hh2 g3 hh3 g4 hh4 g5 hh5 g6 hh6 g7 hh7 g8 hh8 g9 hh9 g10 hh10 g11 hh11 g12 hh12 g13 hh13 g14 hh14 g15 hh15
  go_enter Tryd.func23, Tryd.ntmps23
  go_wp2_with fail
  refine (C1.out _).mono ?_
  rintro e w2 ⟨rfl, b2⟩
  replace HR := Lib.hid (HR.out.after b2)
  have HN := Lib.hid HR.out.sz
  have R3 := Lib.hid (HR.out.after ((Below.refl _ _).alloc (Nat.le_refl _) (.cells #[.int .u32 0, .int .u32 0, .int .u32 0, .int .u32 0] 29)))
  clear b2
  go_wp2_with fail
  go_loopw [8] (fun si wr => ∃ k : Nat, k ≤ 16 ∧ si = .int .i64 k ∧ Hid (R1 w wr) ∧ Hid (wr.heap[w2.heap.size]? = some (.cells #[.int .u32 (pt c0 c1 c2 c3 k), .int .u32 (pt c4 c5 c6 c7 (k - 4)), .int .u32 (pt c8 c9 c10 c11 (k - 8)), .int .u32 (pt c12 c13 c14 c15 (k - 12))] 29 (0, 0)))) (fun si _ => 16 - (intOf si).toNat)
  case atStart => exact ⟨0, by omega, rfl, R3, Lib.hid (heap_alloc_new _ _)⟩
  case round =>
    obtain ⟨k, hk, rfl, HR2, HC⟩ := hrel
    have hk17 : k = 0 ∨ k = 1 ∨ k = 2 ∨ k = 3 ∨ k = 4 ∨ k = 5 ∨ k = 6 ∨ k = 7 ∨ k = 8 ∨ k = 9 ∨ k = 10 ∨ k = 11 ∨ k = 12 ∨ k = 13 ∨ k = 14 ∨ k = 15 ∨ k = 16 := by omega
    rcases hk17 with rfl | rfl | rfl | rfl | rfl | rfl | rfl | rfl | rfl | rfl | rfl | rfl | rfl | rfl | rfl | rfl | rfl
    · obtain ⟨d0, d1, d2, d3, f0, f1, f2, f3⟩ := cells4 HC.out
      have hb : (S[0].toNat : Int) = c0 := H0.out
      obtain ⟨x0, hx0⟩ : ∃ x : Int, pt c0 c1 c2 c3 (0) = x := ⟨_, rfl⟩
      rw [hx0] at d0 HC
      obtain ⟨x1, hx1⟩ : ∃ x : Int, pt c4 c5 c6 c7 (0 - 4) = x := ⟨_, rfl⟩
      rw [hx1] at d1 HC
      obtain ⟨x2, hx2⟩ : ∃ x : Int, pt c8 c9 c10 c11 (0 - 8) = x := ⟨_, rfl⟩
      rw [hx2] at d2 HC
      obtain ⟨x3, hx3⟩ : ∃ x : Int, pt c12 c13 c14 c15 (0 - 12) = x := ⟨_, rfl⟩
      rw [hx3] at d3 HC
      have hbd : 0 ≤ x0 ∧ x0 < 16777216 := by rw [← hx0]; exact pt_bd G0.out G1.out G2.out _ (by omega)
      have hor := or_byte' x0 c0 hbd G0.out
      have HO := Lib.hid hor
      have HX := Lib.hid hx0
      have HX1 := Lib.hid hx1
      have HX2 := Lib.hid hx2
      have HX3 := Lib.hid hx3
      clear hx0 hx1 hx2 hx3 hbd hor
      go_wp2_with fail
      go_region
      rw [HO.out]
      go_wp2_with fail
      go_roundw
      case rel =>
        refine ⟨1, by omega, by go_num, Lib.hid (HR2.out.set HN.out 0 _).drew, ?_⟩
        show _ = _
        have h0 : pt c0 c1 c2 c3 0 = x0 := HX.out
        have p0 : pt c0 c1 c2 c3 (1) = x0 * 256 + c0 := by
          show pt c0 c1 c2 c3 1 = _
          simp only [pt] at h0 ⊢
          omega
        have p1 : pt c4 c5 c6 c7 (1 - 4) = x1 := HX1.out
        have p2 : pt c8 c9 c10 c11 (1 - 8) = x2 := HX2.out
        have p3 : pt c12 c13 c14 c15 (1 - 12) = x3 := HX3.out
        rw [p0, p1, p2, p3, heap_drew, heap_setCell_same wr w2.heap.size 0 _ _ (.int .u32 (x0 * 256 + c0)) HC.out]
        simp
      case measure => simp [intOf]
    · obtain ⟨d0, d1, d2, d3, f0, f1, f2, f3⟩ := cells4 HC.out
      have hb : (S[1].toNat : Int) = c1 := H1.out
      obtain ⟨x0, hx0⟩ : ∃ x : Int, pt c0 c1 c2 c3 (1) = x := ⟨_, rfl⟩
      rw [hx0] at d0 HC
      obtain ⟨x1, hx1⟩ : ∃ x : Int, pt c4 c5 c6 c7 (1 - 4) = x := ⟨_, rfl⟩
      rw [hx1] at d1 HC
      obtain ⟨x2, hx2⟩ : ∃ x : Int, pt c8 c9 c10 c11 (1 - 8) = x := ⟨_, rfl⟩
      rw [hx2] at d2 HC
      obtain ⟨x3, hx3⟩ : ∃ x : Int, pt c12 c13 c14 c15 (1 - 12) = x := ⟨_, rfl⟩
      rw [hx3] at d3 HC
      have hbd : 0 ≤ x0 ∧ x0 < 16777216 := by rw [← hx0]; exact pt_bd G0.out G1.out G2.out _ (by omega)
      have hor := or_byte' x0 c1 hbd G1.out
      have HO := Lib.hid hor
      have HX := Lib.hid hx0
      have HX1 := Lib.hid hx1
      have HX2 := Lib.hid hx2
      have HX3 := Lib.hid hx3
      clear hx0 hx1 hx2 hx3 hbd hor
      go_wp2_with fail
      go_region
      rw [HO.out]
      go_wp2_with fail
      go_roundw
      case rel =>
        refine ⟨2, by omega, by go_num, Lib.hid (HR2.out.set HN.out 0 _).drew, ?_⟩
        show _ = _
        have h0 : pt c0 c1 c2 c3 1 = x0 := HX.out
        have p0 : pt c0 c1 c2 c3 (2) = x0 * 256 + c1 := by
          show pt c0 c1 c2 c3 2 = _
          simp only [pt] at h0 ⊢
          omega
        have p1 : pt c4 c5 c6 c7 (2 - 4) = x1 := HX1.out
        have p2 : pt c8 c9 c10 c11 (2 - 8) = x2 := HX2.out
        have p3 : pt c12 c13 c14 c15 (2 - 12) = x3 := HX3.out
        rw [p0, p1, p2, p3, heap_drew, heap_setCell_same wr w2.heap.size 0 _ _ (.int .u32 (x0 * 256 + c1)) HC.out]
        simp
      case measure => simp [intOf]
    · obtain ⟨d0, d1, d2, d3, f0, f1, f2, f3⟩ := cells4 HC.out
      have hb : (S[2].toNat : Int) = c2 := H2.out
      obtain ⟨x0, hx0⟩ : ∃ x : Int, pt c0 c1 c2 c3 (2) = x := ⟨_, rfl⟩
      rw [hx0] at d0 HC
      obtain ⟨x1, hx1⟩ : ∃ x : Int, pt c4 c5 c6 c7 (2 - 4) = x := ⟨_, rfl⟩
      rw [hx1] at d1 HC
      obtain ⟨x2, hx2⟩ : ∃ x : Int, pt c8 c9 c10 c11 (2 - 8) = x := ⟨_, rfl⟩
      rw [hx2] at d2 HC
      obtain ⟨x3, hx3⟩ : ∃ x : Int, pt c12 c13 c14 c15 (2 - 12) = x := ⟨_, rfl⟩
      rw [hx3] at d3 HC
      have hbd : 0 ≤ x0 ∧ x0 < 16777216 := by rw [← hx0]; exact pt_bd G0.out G1.out G2.out _ (by omega)
      have hor := or_byte' x0 c2 hbd G2.out
      have HO := Lib.hid hor
      have HX := Lib.hid hx0
      have HX1 := Lib.hid hx1
      have HX2 := Lib.hid hx2
      have HX3 := Lib.hid hx3
      clear hx0 hx1 hx2 hx3 hbd hor
      go_wp2_with fail
      go_region
      rw [HO.out]
      go_wp2_with fail
      go_roundw
      case rel =>
        refine ⟨3, by omega, by go_num, Lib.hid (HR2.out.set HN.out 0 _).drew, ?_⟩
        show _ = _
        have h0 : pt c0 c1 c2 c3 2 = x0 := HX.out
        have p0 : pt c0 c1 c2 c3 (3) = x0 * 256 + c2 := by
          show pt c0 c1 c2 c3 3 = _
          simp only [pt] at h0 ⊢
          omega
        have p1 : pt c4 c5 c6 c7 (3 - 4) = x1 := HX1.out
        have p2 : pt c8 c9 c10 c11 (3 - 8) = x2 := HX2.out
        have p3 : pt c12 c13 c14 c15 (3 - 12) = x3 := HX3.out
        rw [p0, p1, p2, p3, heap_drew, heap_setCell_same wr w2.heap.size 0 _ _ (.int .u32 (x0 * 256 + c2)) HC.out]
        simp
      case measure => simp [intOf]
    · obtain ⟨d0, d1, d2, d3, f0, f1, f2, f3⟩ := cells4 HC.out
      have hb : (S[3].toNat : Int) = c3 := H3.out
      obtain ⟨x0, hx0⟩ : ∃ x : Int, pt c0 c1 c2 c3 (3) = x := ⟨_, rfl⟩
      rw [hx0] at d0 HC
      obtain ⟨x1, hx1⟩ : ∃ x : Int, pt c4 c5 c6 c7 (3 - 4) = x := ⟨_, rfl⟩
      rw [hx1] at d1 HC
      obtain ⟨x2, hx2⟩ : ∃ x : Int, pt c8 c9 c10 c11 (3 - 8) = x := ⟨_, rfl⟩
      rw [hx2] at d2 HC
      obtain ⟨x3, hx3⟩ : ∃ x : Int, pt c12 c13 c14 c15 (3 - 12) = x := ⟨_, rfl⟩
      rw [hx3] at d3 HC
      have hbd : 0 ≤ x0 ∧ x0 < 16777216 := by rw [← hx0]; exact pt_bd G0.out G1.out G2.out _ (by omega)
      have hor := or_byte' x0 c3 hbd G3.out
      have HO := Lib.hid hor
      have HX := Lib.hid hx0
      have HX1 := Lib.hid hx1
      have HX2 := Lib.hid hx2
      have HX3 := Lib.hid hx3
      clear hx0 hx1 hx2 hx3 hbd hor
      go_wp2_with fail
      go_region
      rw [HO.out]
      go_wp2_with fail
      go_roundw
      case rel =>
        refine ⟨4, by omega, by go_num, Lib.hid (HR2.out.set HN.out 0 _).drew, ?_⟩
        show _ = _
        have h0 : pt c0 c1 c2 c3 3 = x0 := HX.out
        have p0 : pt c0 c1 c2 c3 (4) = x0 * 256 + c3 := by
          show pt c0 c1 c2 c3 4 = _
          simp only [pt] at h0 ⊢
          omega
        have p1 : pt c4 c5 c6 c7 (4 - 4) = x1 := HX1.out
        have p2 : pt c8 c9 c10 c11 (4 - 8) = x2 := HX2.out
        have p3 : pt c12 c13 c14 c15 (4 - 12) = x3 := HX3.out
        rw [p0, p1, p2, p3, heap_drew, heap_setCell_same wr w2.heap.size 0 _ _ (.int .u32 (x0 * 256 + c3)) HC.out]
        simp
      case measure => simp [intOf]
    · obtain ⟨d0, d1, d2, d3, f0, f1, f2, f3⟩ := cells4 HC.out
      have hb : (S[4].toNat : Int) = c4 := H4.out
      obtain ⟨x0, hx0⟩ : ∃ x : Int, pt c0 c1 c2 c3 (4) = x := ⟨_, rfl⟩
      rw [hx0] at d0 HC
      obtain ⟨x1, hx1⟩ : ∃ x : Int, pt c4 c5 c6 c7 (4 - 4) = x := ⟨_, rfl⟩
      rw [hx1] at d1 HC
      obtain ⟨x2, hx2⟩ : ∃ x : Int, pt c8 c9 c10 c11 (4 - 8) = x := ⟨_, rfl⟩
      rw [hx2] at d2 HC
      obtain ⟨x3, hx3⟩ : ∃ x : Int, pt c12 c13 c14 c15 (4 - 12) = x := ⟨_, rfl⟩
      rw [hx3] at d3 HC
      have hbd : 0 ≤ x1 ∧ x1 < 16777216 := by rw [← hx1]; exact pt_bd G4.out G5.out G6.out _ (by omega)
      have hor := or_byte' x1 c4 hbd G4.out
      have HO := Lib.hid hor
      have HX := Lib.hid hx1
      have HX0 := Lib.hid hx0
      have HX2 := Lib.hid hx2
      have HX3 := Lib.hid hx3
      clear hx0 hx1 hx2 hx3 hbd hor
      go_wp2_with fail
      go_region
      rw [HO.out]
      go_wp2_with fail
      go_roundw
      case rel =>
        refine ⟨5, by omega, by go_num, Lib.hid (HR2.out.set HN.out 1 _).drew, ?_⟩
        show _ = _
        have p0 : pt c0 c1 c2 c3 (5) = x0 := HX0.out
        have h1 : pt c4 c5 c6 c7 0 = x1 := HX.out
        have p1 : pt c4 c5 c6 c7 (5 - 4) = x1 * 256 + c4 := by
          show pt c4 c5 c6 c7 1 = _
          simp only [pt] at h1 ⊢
          omega
        have p2 : pt c8 c9 c10 c11 (5 - 8) = x2 := HX2.out
        have p3 : pt c12 c13 c14 c15 (5 - 12) = x3 := HX3.out
        rw [p0, p1, p2, p3, heap_drew, heap_setCell_same wr w2.heap.size 1 _ _ (.int .u32 (x1 * 256 + c4)) HC.out]
        simp
      case measure => simp [intOf]
    · obtain ⟨d0, d1, d2, d3, f0, f1, f2, f3⟩ := cells4 HC.out
      have hb : (S[5].toNat : Int) = c5 := H5.out
      obtain ⟨x0, hx0⟩ : ∃ x : Int, pt c0 c1 c2 c3 (5) = x := ⟨_, rfl⟩
      rw [hx0] at d0 HC
      obtain ⟨x1, hx1⟩ : ∃ x : Int, pt c4 c5 c6 c7 (5 - 4) = x := ⟨_, rfl⟩
      rw [hx1] at d1 HC
      obtain ⟨x2, hx2⟩ : ∃ x : Int, pt c8 c9 c10 c11 (5 - 8) = x := ⟨_, rfl⟩
      rw [hx2] at d2 HC
      obtain ⟨x3, hx3⟩ : ∃ x : Int, pt c12 c13 c14 c15 (5 - 12) = x := ⟨_, rfl⟩
      rw [hx3] at d3 HC
      have hbd : 0 ≤ x1 ∧ x1 < 16777216 := by rw [← hx1]; exact pt_bd G4.out G5.out G6.out _ (by omega)
      have hor := or_byte' x1 c5 hbd G5.out
      have HO := Lib.hid hor
      have HX := Lib.hid hx1
      have HX0 := Lib.hid hx0
      have HX2 := Lib.hid hx2
      have HX3 := Lib.hid hx3
      clear hx0 hx1 hx2 hx3 hbd hor
      go_wp2_with fail
      go_region
      rw [HO.out]
      go_wp2_with fail
      go_roundw
      case rel =>
        refine ⟨6, by omega, by go_num, Lib.hid (HR2.out.set HN.out 1 _).drew, ?_⟩
        show _ = _
        have p0 : pt c0 c1 c2 c3 (6) = x0 := HX0.out
        have h1 : pt c4 c5 c6 c7 1 = x1 := HX.out
        have p1 : pt c4 c5 c6 c7 (6 - 4) = x1 * 256 + c5 := by
          show pt c4 c5 c6 c7 2 = _
          simp only [pt] at h1 ⊢
          omega
        have p2 : pt c8 c9 c10 c11 (6 - 8) = x2 := HX2.out
        have p3 : pt c12 c13 c14 c15 (6 - 12) = x3 := HX3.out
        rw [p0, p1, p2, p3, heap_drew, heap_setCell_same wr w2.heap.size 1 _ _ (.int .u32 (x1 * 256 + c5)) HC.out]
        simp
      case measure => simp [intOf]
    · obtain ⟨d0, d1, d2, d3, f0, f1, f2, f3⟩ := cells4 HC.out
      have hb : (S[6].toNat : Int) = c6 := H6.out
      obtain ⟨x0, hx0⟩ : ∃ x : Int, pt c0 c1 c2 c3 (6) = x := ⟨_, rfl⟩
      rw [hx0] at d0 HC
      obtain ⟨x1, hx1⟩ : ∃ x : Int, pt c4 c5 c6 c7 (6 - 4) = x := ⟨_, rfl⟩
      rw [hx1] at d1 HC
      obtain ⟨x2, hx2⟩ : ∃ x : Int, pt c8 c9 c10 c11 (6 - 8) = x := ⟨_, rfl⟩
      rw [hx2] at d2 HC
      obtain ⟨x3, hx3⟩ : ∃ x : Int, pt c12 c13 c14 c15 (6 - 12) = x := ⟨_, rfl⟩
      rw [hx3] at d3 HC
      have hbd : 0 ≤ x1 ∧ x1 < 16777216 := by rw [← hx1]; exact pt_bd G4.out G5.out G6.out _ (by omega)
      have hor := or_byte' x1 c6 hbd G6.out
      have HO := Lib.hid hor
      have HX := Lib.hid hx1
      have HX0 := Lib.hid hx0
      have HX2 := Lib.hid hx2
      have HX3 := Lib.hid hx3
      clear hx0 hx1 hx2 hx3 hbd hor
      go_wp2_with fail
      go_region
      rw [HO.out]
      go_wp2_with fail
      go_roundw
      case rel =>
        refine ⟨7, by omega, by go_num, Lib.hid (HR2.out.set HN.out 1 _).drew, ?_⟩
        show _ = _
        have p0 : pt c0 c1 c2 c3 (7) = x0 := HX0.out
        have h1 : pt c4 c5 c6 c7 2 = x1 := HX.out
        have p1 : pt c4 c5 c6 c7 (7 - 4) = x1 * 256 + c6 := by
          show pt c4 c5 c6 c7 3 = _
          simp only [pt] at h1 ⊢
          omega
        have p2 : pt c8 c9 c10 c11 (7 - 8) = x2 := HX2.out
        have p3 : pt c12 c13 c14 c15 (7 - 12) = x3 := HX3.out
        rw [p0, p1, p2, p3, heap_drew, heap_setCell_same wr w2.heap.size 1 _ _ (.int .u32 (x1 * 256 + c6)) HC.out]
        simp
      case measure => simp [intOf]
    · obtain ⟨d0, d1, d2, d3, f0, f1, f2, f3⟩ := cells4 HC.out
      have hb : (S[7].toNat : Int) = c7 := H7.out
      obtain ⟨x0, hx0⟩ : ∃ x : Int, pt c0 c1 c2 c3 (7) = x := ⟨_, rfl⟩
      rw [hx0] at d0 HC
      obtain ⟨x1, hx1⟩ : ∃ x : Int, pt c4 c5 c6 c7 (7 - 4) = x := ⟨_, rfl⟩
      rw [hx1] at d1 HC
      obtain ⟨x2, hx2⟩ : ∃ x : Int, pt c8 c9 c10 c11 (7 - 8) = x := ⟨_, rfl⟩
      rw [hx2] at d2 HC
      obtain ⟨x3, hx3⟩ : ∃ x : Int, pt c12 c13 c14 c15 (7 - 12) = x := ⟨_, rfl⟩
      rw [hx3] at d3 HC
      have hbd : 0 ≤ x1 ∧ x1 < 16777216 := by rw [← hx1]; exact pt_bd G4.out G5.out G6.out _ (by omega)
      have hor := or_byte' x1 c7 hbd G7.out
      have HO := Lib.hid hor
      have HX := Lib.hid hx1
      have HX0 := Lib.hid hx0
      have HX2 := Lib.hid hx2
      have HX3 := Lib.hid hx3
      clear hx0 hx1 hx2 hx3 hbd hor
      go_wp2_with fail
      go_region
      rw [HO.out]
      go_wp2_with fail
      go_roundw
      case rel =>
        refine ⟨8, by omega, by go_num, Lib.hid (HR2.out.set HN.out 1 _).drew, ?_⟩
        show _ = _
        have p0 : pt c0 c1 c2 c3 (8) = x0 := HX0.out
        have h1 : pt c4 c5 c6 c7 3 = x1 := HX.out
        have p1 : pt c4 c5 c6 c7 (8 - 4) = x1 * 256 + c7 := by
          show pt c4 c5 c6 c7 4 = _
          simp only [pt] at h1 ⊢
          omega
        have p2 : pt c8 c9 c10 c11 (8 - 8) = x2 := HX2.out
        have p3 : pt c12 c13 c14 c15 (8 - 12) = x3 := HX3.out
        rw [p0, p1, p2, p3, heap_drew, heap_setCell_same wr w2.heap.size 1 _ _ (.int .u32 (x1 * 256 + c7)) HC.out]
        simp
      case measure => simp [intOf]
    · obtain ⟨d0, d1, d2, d3, f0, f1, f2, f3⟩ := cells4 HC.out
      have hb : (S[8].toNat : Int) = c8 := H8.out
      obtain ⟨x0, hx0⟩ : ∃ x : Int, pt c0 c1 c2 c3 (8) = x := ⟨_, rfl⟩
      rw [hx0] at d0 HC
      obtain ⟨x1, hx1⟩ : ∃ x : Int, pt c4 c5 c6 c7 (8 - 4) = x := ⟨_, rfl⟩
      rw [hx1] at d1 HC
      obtain ⟨x2, hx2⟩ : ∃ x : Int, pt c8 c9 c10 c11 (8 - 8) = x := ⟨_, rfl⟩
      rw [hx2] at d2 HC
      obtain ⟨x3, hx3⟩ : ∃ x : Int, pt c12 c13 c14 c15 (8 - 12) = x := ⟨_, rfl⟩
      rw [hx3] at d3 HC
      have hbd : 0 ≤ x2 ∧ x2 < 16777216 := by rw [← hx2]; exact pt_bd G8.out G9.out G10.out _ (by omega)
      have hor := or_byte' x2 c8 hbd G8.out
      have HO := Lib.hid hor
      have HX := Lib.hid hx2
      have HX0 := Lib.hid hx0
      have HX1 := Lib.hid hx1
      have HX3 := Lib.hid hx3
      clear hx0 hx1 hx2 hx3 hbd hor
      go_wp2_with fail
      go_region
      rw [HO.out]
      go_wp2_with fail
      go_roundw
      case rel =>
        refine ⟨9, by omega, by go_num, Lib.hid (HR2.out.set HN.out 2 _).drew, ?_⟩
        show _ = _
        have p0 : pt c0 c1 c2 c3 (9) = x0 := HX0.out
        have p1 : pt c4 c5 c6 c7 (9 - 4) = x1 := HX1.out
        have h2 : pt c8 c9 c10 c11 0 = x2 := HX.out
        have p2 : pt c8 c9 c10 c11 (9 - 8) = x2 * 256 + c8 := by
          show pt c8 c9 c10 c11 1 = _
          simp only [pt] at h2 ⊢
          omega
        have p3 : pt c12 c13 c14 c15 (9 - 12) = x3 := HX3.out
        rw [p0, p1, p2, p3, heap_drew, heap_setCell_same wr w2.heap.size 2 _ _ (.int .u32 (x2 * 256 + c8)) HC.out]
        simp
      case measure => simp [intOf]
    · obtain ⟨d0, d1, d2, d3, f0, f1, f2, f3⟩ := cells4 HC.out
      have hb : (S[9].toNat : Int) = c9 := H9.out
      obtain ⟨x0, hx0⟩ : ∃ x : Int, pt c0 c1 c2 c3 (9) = x := ⟨_, rfl⟩
      rw [hx0] at d0 HC
      obtain ⟨x1, hx1⟩ : ∃ x : Int, pt c4 c5 c6 c7 (9 - 4) = x := ⟨_, rfl⟩
      rw [hx1] at d1 HC
      obtain ⟨x2, hx2⟩ : ∃ x : Int, pt c8 c9 c10 c11 (9 - 8) = x := ⟨_, rfl⟩
      rw [hx2] at d2 HC
      obtain ⟨x3, hx3⟩ : ∃ x : Int, pt c12 c13 c14 c15 (9 - 12) = x := ⟨_, rfl⟩
      rw [hx3] at d3 HC
      have hbd : 0 ≤ x2 ∧ x2 < 16777216 := by rw [← hx2]; exact pt_bd G8.out G9.out G10.out _ (by omega)
      have hor := or_byte' x2 c9 hbd G9.out
      have HO := Lib.hid hor
      have HX := Lib.hid hx2
      have HX0 := Lib.hid hx0
      have HX1 := Lib.hid hx1
      have HX3 := Lib.hid hx3
      clear hx0 hx1 hx2 hx3 hbd hor
      go_wp2_with fail
      go_region
      rw [HO.out]
      go_wp2_with fail
      go_roundw
      case rel =>
        refine ⟨10, by omega, by go_num, Lib.hid (HR2.out.set HN.out 2 _).drew, ?_⟩
        show _ = _
        have p0 : pt c0 c1 c2 c3 (10) = x0 := HX0.out
        have p1 : pt c4 c5 c6 c7 (10 - 4) = x1 := HX1.out
        have h2 : pt c8 c9 c10 c11 1 = x2 := HX.out
        have p2 : pt c8 c9 c10 c11 (10 - 8) = x2 * 256 + c9 := by
          show pt c8 c9 c10 c11 2 = _
          simp only [pt] at h2 ⊢
          omega
        have p3 : pt c12 c13 c14 c15 (10 - 12) = x3 := HX3.out
        rw [p0, p1, p2, p3, heap_drew, heap_setCell_same wr w2.heap.size 2 _ _ (.int .u32 (x2 * 256 + c9)) HC.out]
        simp
      case measure => simp [intOf]
    · obtain ⟨d0, d1, d2, d3, f0, f1, f2, f3⟩ := cells4 HC.out
      have hb : (S[10].toNat : Int) = c10 := H10.out
      obtain ⟨x0, hx0⟩ : ∃ x : Int, pt c0 c1 c2 c3 (10) = x := ⟨_, rfl⟩
      rw [hx0] at d0 HC
      obtain ⟨x1, hx1⟩ : ∃ x : Int, pt c4 c5 c6 c7 (10 - 4) = x := ⟨_, rfl⟩
      rw [hx1] at d1 HC
      obtain ⟨x2, hx2⟩ : ∃ x : Int, pt c8 c9 c10 c11 (10 - 8) = x := ⟨_, rfl⟩
      rw [hx2] at d2 HC
      obtain ⟨x3, hx3⟩ : ∃ x : Int, pt c12 c13 c14 c15 (10 - 12) = x := ⟨_, rfl⟩
      rw [hx3] at d3 HC
      have hbd : 0 ≤ x2 ∧ x2 < 16777216 := by rw [← hx2]; exact pt_bd G8.out G9.out G10.out _ (by omega)
      have hor := or_byte' x2 c10 hbd G10.out
      have HO := Lib.hid hor
      have HX := Lib.hid hx2
      have HX0 := Lib.hid hx0
      have HX1 := Lib.hid hx1
      have HX3 := Lib.hid hx3
      clear hx0 hx1 hx2 hx3 hbd hor
      go_wp2_with fail
      go_region
      rw [HO.out]
      go_wp2_with fail
      go_roundw
      case rel =>
        refine ⟨11, by omega, by go_num, Lib.hid (HR2.out.set HN.out 2 _).drew, ?_⟩
        show _ = _
        have p0 : pt c0 c1 c2 c3 (11) = x0 := HX0.out
        have p1 : pt c4 c5 c6 c7 (11 - 4) = x1 := HX1.out
        have h2 : pt c8 c9 c10 c11 2 = x2 := HX.out
        have p2 : pt c8 c9 c10 c11 (11 - 8) = x2 * 256 + c10 := by
          show pt c8 c9 c10 c11 3 = _
          simp only [pt] at h2 ⊢
          omega
        have p3 : pt c12 c13 c14 c15 (11 - 12) = x3 := HX3.out
        rw [p0, p1, p2, p3, heap_drew, heap_setCell_same wr w2.heap.size 2 _ _ (.int .u32 (x2 * 256 + c10)) HC.out]
        simp
      case measure => simp [intOf]
    · obtain ⟨d0, d1, d2, d3, f0, f1, f2, f3⟩ := cells4 HC.out
      have hb : (S[11].toNat : Int) = c11 := H11.out
      obtain ⟨x0, hx0⟩ : ∃ x : Int, pt c0 c1 c2 c3 (11) = x := ⟨_, rfl⟩
      rw [hx0] at d0 HC
      obtain ⟨x1, hx1⟩ : ∃ x : Int, pt c4 c5 c6 c7 (11 - 4) = x := ⟨_, rfl⟩
      rw [hx1] at d1 HC
      obtain ⟨x2, hx2⟩ : ∃ x : Int, pt c8 c9 c10 c11 (11 - 8) = x := ⟨_, rfl⟩
      rw [hx2] at d2 HC
      obtain ⟨x3, hx3⟩ : ∃ x : Int, pt c12 c13 c14 c15 (11 - 12) = x := ⟨_, rfl⟩
      rw [hx3] at d3 HC
      have hbd : 0 ≤ x2 ∧ x2 < 16777216 := by rw [← hx2]; exact pt_bd G8.out G9.out G10.out _ (by omega)
      have hor := or_byte' x2 c11 hbd G11.out
      have HO := Lib.hid hor
      have HX := Lib.hid hx2
      have HX0 := Lib.hid hx0
      have HX1 := Lib.hid hx1
      have HX3 := Lib.hid hx3
      clear hx0 hx1 hx2 hx3 hbd hor
      go_wp2_with fail
      go_region
      rw [HO.out]
      go_wp2_with fail
      go_roundw
      case rel =>
        refine ⟨12, by omega, by go_num, Lib.hid (HR2.out.set HN.out 2 _).drew, ?_⟩
        show _ = _
        have p0 : pt c0 c1 c2 c3 (12) = x0 := HX0.out
        have p1 : pt c4 c5 c6 c7 (12 - 4) = x1 := HX1.out
        have h2 : pt c8 c9 c10 c11 3 = x2 := HX.out
        have p2 : pt c8 c9 c10 c11 (12 - 8) = x2 * 256 + c11 := by
          show pt c8 c9 c10 c11 4 = _
          simp only [pt] at h2 ⊢
          omega
        have p3 : pt c12 c13 c14 c15 (12 - 12) = x3 := HX3.out
        rw [p0, p1, p2, p3, heap_drew, heap_setCell_same wr w2.heap.size 2 _ _ (.int .u32 (x2 * 256 + c11)) HC.out]
        simp
      case measure => simp [intOf]
    · obtain ⟨d0, d1, d2, d3, f0, f1, f2, f3⟩ := cells4 HC.out
      have hb : (S[12].toNat : Int) = c12 := H12.out
      obtain ⟨x0, hx0⟩ : ∃ x : Int, pt c0 c1 c2 c3 (12) = x := ⟨_, rfl⟩
      rw [hx0] at d0 HC
      obtain ⟨x1, hx1⟩ : ∃ x : Int, pt c4 c5 c6 c7 (12 - 4) = x := ⟨_, rfl⟩
      rw [hx1] at d1 HC
      obtain ⟨x2, hx2⟩ : ∃ x : Int, pt c8 c9 c10 c11 (12 - 8) = x := ⟨_, rfl⟩
      rw [hx2] at d2 HC
      obtain ⟨x3, hx3⟩ : ∃ x : Int, pt c12 c13 c14 c15 (12 - 12) = x := ⟨_, rfl⟩
      rw [hx3] at d3 HC
      have hbd : 0 ≤ x3 ∧ x3 < 16777216 := by rw [← hx3]; exact pt_bd G12.out G13.out G14.out _ (by omega)
      have hor := or_byte' x3 c12 hbd G12.out
      have HO := Lib.hid hor
      have HX := Lib.hid hx3
      have HX0 := Lib.hid hx0
      have HX1 := Lib.hid hx1
      have HX2 := Lib.hid hx2
      clear hx0 hx1 hx2 hx3 hbd hor
      go_wp2_with fail
      go_region
      rw [HO.out]
      go_wp2_with fail
      go_roundw
      case rel =>
        refine ⟨13, by omega, by go_num, Lib.hid (HR2.out.set HN.out 3 _).drew, ?_⟩
        show _ = _
        have p0 : pt c0 c1 c2 c3 (13) = x0 := HX0.out
        have p1 : pt c4 c5 c6 c7 (13 - 4) = x1 := HX1.out
        have p2 : pt c8 c9 c10 c11 (13 - 8) = x2 := HX2.out
        have h3 : pt c12 c13 c14 c15 0 = x3 := HX.out
        have p3 : pt c12 c13 c14 c15 (13 - 12) = x3 * 256 + c12 := by
          show pt c12 c13 c14 c15 1 = _
          simp only [pt] at h3 ⊢
          omega
        rw [p0, p1, p2, p3, heap_drew, heap_setCell_same wr w2.heap.size 3 _ _ (.int .u32 (x3 * 256 + c12)) HC.out]
        simp
      case measure => simp [intOf]
    · obtain ⟨d0, d1, d2, d3, f0, f1, f2, f3⟩ := cells4 HC.out
      have hb : (S[13].toNat : Int) = c13 := H13.out
      obtain ⟨x0, hx0⟩ : ∃ x : Int, pt c0 c1 c2 c3 (13) = x := ⟨_, rfl⟩
      rw [hx0] at d0 HC
      obtain ⟨x1, hx1⟩ : ∃ x : Int, pt c4 c5 c6 c7 (13 - 4) = x := ⟨_, rfl⟩
      rw [hx1] at d1 HC
      obtain ⟨x2, hx2⟩ : ∃ x : Int, pt c8 c9 c10 c11 (13 - 8) = x := ⟨_, rfl⟩
      rw [hx2] at d2 HC
      obtain ⟨x3, hx3⟩ : ∃ x : Int, pt c12 c13 c14 c15 (13 - 12) = x := ⟨_, rfl⟩
      rw [hx3] at d3 HC
      have hbd : 0 ≤ x3 ∧ x3 < 16777216 := by rw [← hx3]; exact pt_bd G12.out G13.out G14.out _ (by omega)
      have hor := or_byte' x3 c13 hbd G13.out
      have HO := Lib.hid hor
      have HX := Lib.hid hx3
      have HX0 := Lib.hid hx0
      have HX1 := Lib.hid hx1
      have HX2 := Lib.hid hx2
      clear hx0 hx1 hx2 hx3 hbd hor
      go_wp2_with fail
      go_region
      rw [HO.out]
      go_wp2_with fail
      go_roundw
      case rel =>
        refine ⟨14, by omega, by go_num, Lib.hid (HR2.out.set HN.out 3 _).drew, ?_⟩
        show _ = _
        have p0 : pt c0 c1 c2 c3 (14) = x0 := HX0.out
        have p1 : pt c4 c5 c6 c7 (14 - 4) = x1 := HX1.out
        have p2 : pt c8 c9 c10 c11 (14 - 8) = x2 := HX2.out
        have h3 : pt c12 c13 c14 c15 1 = x3 := HX.out
        have p3 : pt c12 c13 c14 c15 (14 - 12) = x3 * 256 + c13 := by
          show pt c12 c13 c14 c15 2 = _
          simp only [pt] at h3 ⊢
          omega
        rw [p0, p1, p2, p3, heap_drew, heap_setCell_same wr w2.heap.size 3 _ _ (.int .u32 (x3 * 256 + c13)) HC.out]
        simp
      case measure => simp [intOf]
    · obtain ⟨d0, d1, d2, d3, f0, f1, f2, f3⟩ := cells4 HC.out
      have hb : (S[14].toNat : Int) = c14 := H14.out
      obtain ⟨x0, hx0⟩ : ∃ x : Int, pt c0 c1 c2 c3 (14) = x := ⟨_, rfl⟩
      rw [hx0] at d0 HC
      obtain ⟨x1, hx1⟩ : ∃ x : Int, pt c4 c5 c6 c7 (14 - 4) = x := ⟨_, rfl⟩
      rw [hx1] at d1 HC
      obtain ⟨x2, hx2⟩ : ∃ x : Int, pt c8 c9 c10 c11 (14 - 8) = x := ⟨_, rfl⟩
      rw [hx2] at d2 HC
      obtain ⟨x3, hx3⟩ : ∃ x : Int, pt c12 c13 c14 c15 (14 - 12) = x := ⟨_, rfl⟩
      rw [hx3] at d3 HC
      have hbd : 0 ≤ x3 ∧ x3 < 16777216 := by rw [← hx3]; exact pt_bd G12.out G13.out G14.out _ (by omega)
      have hor := or_byte' x3 c14 hbd G14.out
      have HO := Lib.hid hor
      have HX := Lib.hid hx3
      have HX0 := Lib.hid hx0
      have HX1 := Lib.hid hx1
      have HX2 := Lib.hid hx2
      clear hx0 hx1 hx2 hx3 hbd hor
      go_wp2_with fail
      go_region
      rw [HO.out]
      go_wp2_with fail
      go_roundw
      case rel =>
        refine ⟨15, by omega, by go_num, Lib.hid (HR2.out.set HN.out 3 _).drew, ?_⟩
        show _ = _
        have p0 : pt c0 c1 c2 c3 (15) = x0 := HX0.out
        have p1 : pt c4 c5 c6 c7 (15 - 4) = x1 := HX1.out
        have p2 : pt c8 c9 c10 c11 (15 - 8) = x2 := HX2.out
        have h3 : pt c12 c13 c14 c15 2 = x3 := HX.out
        have p3 : pt c12 c13 c14 c15 (15 - 12) = x3 * 256 + c14 := by
          show pt c12 c13 c14 c15 3 = _
          simp only [pt] at h3 ⊢
          omega
        rw [p0, p1, p2, p3, heap_drew, heap_setCell_same wr w2.heap.size 3 _ _ (.int .u32 (x3 * 256 + c14)) HC.out]
        simp
      case measure => simp [intOf]
    · obtain ⟨d0, d1, d2, d3, f0, f1, f2, f3⟩ := cells4 HC.out
      have hb : (S[15].toNat : Int) = c15 := H15.out
      obtain ⟨x0, hx0⟩ : ∃ x : Int, pt c0 c1 c2 c3 (15) = x := ⟨_, rfl⟩
      rw [hx0] at d0 HC
      obtain ⟨x1, hx1⟩ : ∃ x : Int, pt c4 c5 c6 c7 (15 - 4) = x := ⟨_, rfl⟩
      rw [hx1] at d1 HC
      obtain ⟨x2, hx2⟩ : ∃ x : Int, pt c8 c9 c10 c11 (15 - 8) = x := ⟨_, rfl⟩
      rw [hx2] at d2 HC
      obtain ⟨x3, hx3⟩ : ∃ x : Int, pt c12 c13 c14 c15 (15 - 12) = x := ⟨_, rfl⟩
      rw [hx3] at d3 HC
      have hbd : 0 ≤ x3 ∧ x3 < 16777216 := by rw [← hx3]; exact pt_bd G12.out G13.out G14.out _ (by omega)
      have hor := or_byte' x3 c15 hbd G15.out
      have HO := Lib.hid hor
      have HX := Lib.hid hx3
      have HX0 := Lib.hid hx0
      have HX1 := Lib.hid hx1
      have HX2 := Lib.hid hx2
      clear hx0 hx1 hx2 hx3 hbd hor
      go_wp2_with fail
      go_region
      rw [HO.out]
      go_wp2_with fail
      go_roundw
      case rel =>
        refine ⟨16, by omega, by go_num, Lib.hid (HR2.out.set HN.out 3 _).drew, ?_⟩
        show _ = _
        have p0 : pt c0 c1 c2 c3 (16) = x0 := HX0.out
        have p1 : pt c4 c5 c6 c7 (16 - 4) = x1 := HX1.out
        have p2 : pt c8 c9 c10 c11 (16 - 8) = x2 := HX2.out
        have h3 : pt c12 c13 c14 c15 3 = x3 := HX.out
        have p3 : pt c12 c13 c14 c15 (16 - 12) = x3 * 256 + c15 := by
          show pt c12 c13 c14 c15 4 = _
          simp only [pt] at h3 ⊢
          omega
        rw [p0, p1, p2, p3, heap_drew, heap_setCell_same wr w2.heap.size 3 _ _ (.int .u32 (x3 * 256 + c15)) HC.out]
        simp
      case measure => simp [intOf]
    · have hc4 : wr.heap[w2.heap.size]? = some (.cells #[.int .u32 (pt c0 c1 c2 c3 4), .int .u32 (pt c4 c5 c6 c7 4), .int .u32 (pt c8 c9 c10 c11 4), .int .u32 (pt c12 c13 c14 c15 4)] 29 (0, 0)) := HC.out
      obtain ⟨y0, hy0⟩ : ∃ x : Int, pt c0 c1 c2 c3 4 = x := ⟨_, rfl⟩
      obtain ⟨y1, hy1⟩ : ∃ x : Int, pt c4 c5 c6 c7 4 = x := ⟨_, rfl⟩
      obtain ⟨y2, hy2⟩ : ∃ x : Int, pt c8 c9 c10 c11 4 = x := ⟨_, rfl⟩
      obtain ⟨y3, hy3⟩ : ∃ x : Int, pt c12 c13 c14 c15 4 = x := ⟨_, rfl⟩
      rw [hy0, hy1, hy2, hy3] at hc4
      have HY0 := Lib.hid hy0
      have HY1 := Lib.hid hy1
      have HY2 := Lib.hid hy2
      have HY3 := Lib.hid hy3
      clear hy0 hy1 hy2 hy3
      obtain ⟨d0, d1, d2, d3, f0, f1, f2, f3⟩ := cells4 hc4
      obtain ⟨r0, r1, r2, r3, q0, q1, q2, q3⟩ := cells4 HR2.out.hz
      have hne : w.heap.size ≠ w2.heap.size := Nat.ne_of_lt HN.out
      clear hc4 HC
      go_wp2_with fail
      exact bodyPost_ret (v := .tuple #[.agg #[.int .u32 y0, .int .u32 y1, .int .u32 y2, .int .u32 y3], .int .i64 0]) (by
        obtain ⟨k0, k1, k2, k3, _⟩ := cells4 (row4 HR2.out.hz (.int .u32 y0) (.int .u32 y1) (.int .u32 y2) (.int .u32 y3))
        simp [results, go_sem, k0, k1, k2, k3]) rfl ⟨by rw [HY0.out, HY1.out, HY2.out, HY3.out], below_row4 HR2.out.be (Nat.le_refl _) _ _ _ _⟩
theorem dparse_ref (t : ByteArray) (w : World) (hs : t.size ≤ 1073741824) :
    Calls Tryd.prog 23 #[.string t] w fun e w' => e = .returned (.tuple #[ag (prd t.data.toList).1, .int .i64 (prd t.data.toList).2]) ∧ Below w.heap.size w w' := by
  have hle := nd_le t.data.toList
  rw [list_size] at hle
  by_cases h : t.size = 32 ∧ nd t.data.toList = 32
  · rw [prd_ok (by rw [list_size]; exact h.1) h.2]
    exact dparse_good t w h.1 h.2
  · rw [prd_bad (by rw [list_size]; omega)]
    by_cases h2 : nd t.data.toList < t.size ∨ nd t.data.toList % 2 ≠ 0
    · exact dparse_bad1 t w hs h2
    · exact dparse_bad2 t w hs (by omega) (by omega) (by omega)
end Go.Proofs.YtaogndcaabnboaaDoor
