/- Keys' seeds and one-time keys: the contracts of keys' count, of the closure that fills the seeds, and of seedsOf. Keys' trees: the contracts of keys' publics and Public. Keys' signatures: the contract of keys' Sign. -/
import Derived.Test.YtfbefenagnlnfaaDoorGKa
import Derived.Test.YtfbefenagnlnfaaDoorDigF
import Derived.Test.YtfbefenagnlnfaaDoorBytes
import Derived.ArgAppend
import Derived.Deep.WholeRow
set_option linter.unusedVariables false
namespace Go.Proofs.YtfbefenagnlnfaaDoor
open Go.RowKit

theorem count_no (h : Int) (w : World) (hh : h < 0 ∨ 4 < h) :
    Calls Tryd.prog 26 #[.int .i64 h] w fun e w' => e = .returned (.tuple #[.int .i64 0, .int .i64 2]) ∧ w' = w := by
  by_cases h0 : h < 0
  · clear hh
    go_enter Tryd.func26, Tryd.ntmps26
    go_wp2_with fail
    go_ret2
    exact ⟨rfl, rfl⟩
  · have h1 : 4 < h := by omega
    clear hh
    go_enter Tryd.func26, Tryd.ntmps26
    go_wp2_with fail
    go_ret2
    exact ⟨rfl, rfl⟩
theorem count_yes (h : Nat) (w : World) (hh : h ≤ 4) :
    Calls Tryd.prog 26 #[.int .i64 (h : Int)] w fun e w' => e = .returned (.tuple #[.int .i64 ((2 ^ h : Nat) : Int), .int .i64 0]) ∧ w' = w := by
  match h, hh with
  | 0, _ | 1, _ | 2, _ | 3, _ | 4, _ =>
    go_enter Tryd.func26, Tryd.ntmps26
    go_wp2_with fail
    go_ret2
    exact ⟨rfl, rfl⟩

/-- The cells of a list of seeds, and noughts up to 16 of them. -/
def sdc (l : Dl) : Array Value := (mcs l ++ List.replicate (64 - 4 * l.length) (Value.int .u32 0)).toArray
theorem sdc_full {l : Dl} (h : l.length = 16) : sdc l = (mcs l).toArray := by simp [sdc, h]
theorem sdc_size {l : Dl} (ho : Oks l) (h : l.length ≤ 16) : (sdc l).size = 64 := by
  simp [sdc, cs_length ho]; omega
theorem info16 : (Tryd.prog.info? 61).map (fun i => (i.zero, i.size)) = some (some (.agg (sdc [])), 64) := by kernel_rfl
theorem info16s : (Tryd.prog.info? 61).map (·.size) = some 64 := by kernel_rfl
theorem zero16 (w : World) : (zeroValue 61).run Tryd.prog w = .ok (.agg (sdc [])) w := (zero_of_info info16).1 w
theorem sdc_one (l : Dl) : (sdc l).all (·.oneCell') = true := by
  rw [Array.all_eq_true_iff_forall_mem]
  intro v hv
  simp only [sdc, mcs, List.mem_toArray, List.mem_append, List.mem_flatMap, List.mem_map, List.mem_replicate] at hv
  rcases hv with ⟨d, _, x, _, rfl⟩ | ⟨_, rfl⟩ <;> rfl
theorem put_sd {w : World} {b j : Nat} {t : TypeId} {l : Dl} (h : w.heap[b]? = some (.cells (sdc l) t (0, 0))) (hl : l.length = j) (hj : j < 16) (ho : Oks l) (z0 z1 z2 z3 : Int) :
    ((((w.setCell ⟨b, j * 4, none⟩ (.int .u32 z0)).setCell ⟨b, j * 4 + 1, none⟩ (.int .u32 z1)).setCell ⟨b, j * 4 + 2, none⟩ (.int .u32 z2)).setCell ⟨b, j * 4 + 3, none⟩ (.int .u32 z3)).heap[b]? = some (.cells (sdc (l ++ [[z0, z1, z2, z3]])) t (0, 0)) := by
  have e0 := heap_setCell_same w b (j * 4) _ t (.int .u32 z0) h
  have e1 := heap_setCell_same _ b (j * 4 + 1) _ t (.int .u32 z1) e0
  have e2 := heap_setCell_same _ b (j * 4 + 2) _ t (.int .u32 z2) e1
  have e3 := heap_setCell_same _ b (j * 4 + 3) _ t (.int .u32 z3) e2
  rw [e3]
  have key : ((((sdc l).setIfInBounds (j * 4) (.int .u32 z0)).setIfInBounds (j * 4 + 1) (.int .u32 z1)).setIfInBounds (j * 4 + 2) (.int .u32 z2)).setIfInBounds (j * 4 + 3) (.int .u32 z3) = sdc (l ++ [[z0, z1, z2, z3]]) := by
    apply Array.ext'
    simp only [sdc, Array.toList_setIfInBounds, List.length_append, List.length_cons, List.length_nil, hl]
    rw [four_zero (n := 64 - 4 * j) (by omega), list_put _ _ _ _ _ _ _ _ _ _ _ (by rw [cs_length ho, hl]), cs_append, cs_one]
    simp [show 64 - 4 * j - 4 = 64 - 4 * (j + 1) by omega]
  rw [key]
theorem sd_cells {w : World} {b j : Nat} {t : TypeId} {l : Dl} (h : w.heap[b]? = some (.cells (sdc l) t (0, 0))) (hl : l.length = j) (hj : j < 16) (ho : Oks l) :
    (w.cell? ⟨b, j * 4, none⟩ = some (.int .u32 0) ∧ w.cell? ⟨b, j * 4 + 1, none⟩ = some (.int .u32 0) ∧ w.cell? ⟨b, j * 4 + 2, none⟩ = some (.int .u32 0) ∧ w.cell? ⟨b, j * 4 + 3, none⟩ = some (.int .u32 0)) ∧
    (w.frozen? ⟨b, j * 4, none⟩ = false ∧ w.frozen? ⟨b, j * 4 + 1, none⟩ = false ∧ w.frozen? ⟨b, j * 4 + 2, none⟩ = false ∧ w.frozen? ⟨b, j * 4 + 3, none⟩ = false) := by
  have hc := cs_length ho
  have at_ : ∀ i, i < 4 → w.cell? ⟨b, j * 4 + i, none⟩ = some (.int .u32 0) := by
    intro i hi
    rw [cell_of_row w b _ _ t (0, 0) h]
    simp only [sdc, List.getElem?_toArray]
    rw [List.getElem?_append_right (by omega), List.getElem?_replicate, if_pos (by omega)]
  refine ⟨⟨at_ 0 (by omega), at_ 1 (by omega), at_ 2 (by omega), at_ 3 (by omega)⟩, ?_⟩
  simp [World.frozen?, h]
theorem own_cells {w : World} {B e n : Nat} {v : Value} {xs : List Value} (h : w.ownsRow B e 1 v n xs) (hn : 0 < n) :
    ∃ g cap, v = .slice (some ⟨g, 0, none⟩) n cap ∧ B ≤ g ∧ g < w.heap.size ∧ ∀ j x, xs[j]? = some x → w.cell? ⟨g, 0 + j, none⟩ = some x := by
  obtain ⟨hl, h | ⟨g, cap, cur, hv, hg, hb, h1, h2, h3, h4⟩⟩ := h
  · omega
  · refine ⟨g, cap, hv, hg, (Array.getElem?_eq_some_iff.1 hb).1, fun j x hj => ?_⟩
    rw [cell_of_row w g _ _ e (0, 0) hb, Nat.zero_add]
    rw [← h4, List.getElem?_take] at hj
    split at hj
    · simpa using hj
    · simp at hj
/-- Two blocks that are known, the second one the seeds'. -/
def Kf (q r : Nat) (w W : World) (x : Ws) (l : Dl) : Prop := Kx (some r) w W [(q, .cells (x.map (Value.int .u32)).toArray 24 (0, 0)), (r, .cells (sdc l) 61 (0, 0))]
theorem Kf.two {q r : Nat} {w : World} {x : Ws} {l : Dl} (hq : w.heap[q]? = some (.cells (x.map (Value.int .u32)).toArray 24 (0, 0))) (hr : w.heap[r]? = some (.cells (sdc l) 61 (0, 0))) (hn : q ≠ r) : Kf q r w w x l :=
  ⟨fun y hy => by
    simp only [List.mem_cons, List.not_mem_nil, or_false] at hy
    rcases hy with rfl | rfl
    · exact ⟨hq, (Array.getElem?_eq_some_iff.1 hq).1⟩
    · exact ⟨hr, (Array.getElem?_eq_some_iff.1 hr).1⟩, by simp [hn], Bx.rfl_ _ _⟩
set_option maxRecDepth 100000 in
set_option maxHeartbeats 2000000 in
theorem fill_code (seed : Ws) (l : Dl) (i q r B : Nat) (w : World) (hs : Ok4 seed) (hi : i < 16) (hl : l.length = i) (ho : Oks l) (hn : q ≠ r)
    (hq : w.heap[q]? = some (.cells (seed.map (Value.int .u32)).toArray 24 (0, 0))) (hr : w.heap[r]? = some (.cells (sdc l) 61 (0, 0))) (hB : TabsB B w) (hBr : B ≤ r) :
    Calls Tryd.prog 46 #[.int .i64 (i : Int), .pointer (some ⟨q, 0, none⟩), .pointer (some ⟨r, 0, none⟩)] w fun e w' => e = .returned (.tuple #[]) ∧ w'.heap[r]? = some (.cells (sdc (l ++ [ksd seed i])) 61 (0, 0)) ∧ Bx (some r) w w' := by
  have o := ksd_ok hs i
  have hsz := kbs_size hs i
  have c2 := fun w ht => of_code (kbs seed i) w (by rw [hsz]; omega) ht
  rw [show dof (kbs seed i) = ksd seed i from rfl] at c2
  obtain ⟨z0, z1, z2, z3, e, _⟩ := ok4 o
  rw [e] at c2 ⊢
  obtain ⟨x0, x1, x2, x3, rfl, k0, k1, k2, k3⟩ := ok4 hs
  have c1 := fun (w : World) (g cap : Nat) (hg : g < w.heap.size) (hc : ∀ j, j < 5 → w.cell? ⟨g, 0 + j, none⟩ = some (.int .u32 ([x0, x1, x2, x3, (i : Int)].getD j 0))) => bytes_row g 0 5 cap [x0, x1, x2, x3, (i : Int)] w rfl (by omega) (by omega) hg hc (by
    intro j
    match j with
    | 0 => exact w32_lt5 k0
    | 1 => exact w32_lt5 k1
    | 2 => exact w32_lt5 k2
    | 3 => exact w32_lt5 k3
    | 4 => simp; omega
    | n + 5 => simp)
  have hk : kbs [x0, x1, x2, x3] i = (⟨#[107]⟩ : ByteArray) ++ strOfNums (bytsAll [x0, x1, x2, x3, (i : Int)]) := rfl
  obtain ⟨S, hS⟩ : ∃ S, strOfNums (bytsAll [x0, x1, x2, x3, (i : Int)]) = S := ⟨_, rfl⟩
  obtain ⟨T, hT⟩ : ∃ T, kbs [x0, x1, x2, x3] i = T := ⟨_, rfl⟩
  rw [hT] at hk c2 hsz
  rw [hS] at hk c1
  have hk2 : (⟨#[107]⟩ : ByteArray) ++ S = T := hk.symm
  rw [ag4] at c2
  have C1 := Lib.hid c1
  have C2 := Lib.hid c2
  have HK : Hid (Kf q r w w [x0, x1, x2, x3] l) := Lib.hid (Kf.two hq hr hn)
  have HTB : Hid (∀ W y, Kf q r w W y l → Tabs W) := Lib.hid fun W y h => (TabsB.below hB (h.be.to (Nat.le_of_lt (by have := (Array.getElem?_eq_some_iff.1 hr).1; omega)) (fun k hk => by injection hk with hk; omega))).toTabs
  have i0 : (0 : Int) ≤ (i : Int) := by omega
  have i1 : (i : Int) < 16 := by omega
  have i2 : (i : Int) % 4294967296 = (i : Int) := by omega
  have hss : S.size = 20 := by
    have h := hsz
    rw [← hk2, ByteArray.size_append] at h
    have h1 : (⟨#[107]⟩ : ByteArray).size = 1 := rfl
    omega
  obtain ⟨m, hm⟩ : ∃ m, m = 20 := ⟨_, rfl⟩
  have q0 : S.size = m := by rw [hss, hm]
  have q1 : ((⟨#[107]⟩ : ByteArray) ++ S).size = 1 + m := by rw [ByteArray.size_append, q0]; rfl
  have i3 : ¬ 9223372036854775807 < 1 + m := by omega
  have HTK := Lib.hid hk2
  have HL := Lib.hid hl
  have HO := Lib.hid ho
  have HI := Lib.hid hi
  obtain ⟨a0, a1, a2, a3, _⟩ := cells4 (HK.out.at 0 rfl)
  obtain ⟨n0, hz, hz0, hz1, hz2⟩ := info_parts infoU32
  have hlq : q < w.heap.size := HK.out.lt 0 rfl
  have hlr : r < w.heap.size := HK.out.lt 1 rfl
  clear c1 c2 e o hs hk hS hT hsz hk2 hm hss hq hr hB hl ho hi
  go_enter Tryd.func46, Tryd.ntmps46
  go_wp2_with (at_builtin; refine wpList_append_grows _ rfl _ _ 76 rfl 22 n0 _ 1 4 Tryd.underlying76 hz hz0 hz1 hz2 rfl (by decide) (some ⟨q, 0, none⟩) 4 4 [.int .u32 x0, .int .u32 x1, .int .u32 x2, .int .u32 x3] rfl (by simp) rfl ?olds ⟨w.heap.size, 0, none⟩ 1 1 [.int .u32 (i : Int)] rfl rfl (one_new w _ _) (by simp [Value.oneCell']) (by decide) (by decide) (by decide) ?_)
  case olds =>
    intro b hb
    injection hb with hb
    subst hb
    exact World.news_of_block (cs := #[.int .u32 x0, .int .u32 x1, .int .u32 x2, .int .u32 x3]) ((HK.out.more _).at 0 rfl)
  intro v' w1 hown hgrow
  have hb : Below w.heap.size w w1 := ((Below.refl w.heap.size w).alloc (Nat.le_refl _) _).grown hgrow (by simp) (by simp)
  obtain ⟨g, cap, rfl, hg, hgl, hc⟩ := own_cells hown (by decide)
  replace HK : Hid (Kf q r w w1 [x0, x1, x2, x3] l) := Lib.hid (HK.out.after hb)
  have HC := Lib.hid hc
  have HG := Lib.hid hgl
  clear hb hown hgrow hc hgl hg a0 a1 a2 a3
  go_wp2_with fail
  refine (C1.out w1 g cap HG.out (fun j hj => by
    match j, hj with
    | 0, _ => exact HC.out 0 _ rfl
    | 1, _ => exact HC.out 1 _ rfl
    | 2, _ => exact HC.out 2 _ rfl
    | 3, _ => exact HC.out 3 _ rfl
    | 4, _ => exact HC.out 4 _ rfl)).mono ?_
  rintro e w2 ⟨rfl, hb⟩
  replace HK : Hid (Kf q r w w2 [x0, x1, x2, x3] l) := Lib.hid (HK.out.after hb)
  clear hb HC HG
  go_wp2_with fail
  rw [HTK.out]
  refine (C2.out _ (HTB.out _ _ HK.out)).mono ?_
  rintro e w3 ⟨rfl, hb⟩
  replace HK : Hid (Kf q r w w3 [x0, x1, x2, x3] l) := Lib.hid (HK.out.after hb)
  clear hb
  obtain ⟨⟨a0, a1, a2, a3⟩, ⟨d0, d1, d2, d3⟩⟩ := sd_cells (HK.out.at 1 rfl) HL.out HI.out HO.out
  have HE := Lib.hid (put_sd (HK.out.at 1 rfl) HL.out HI.out HO.out z0 z1 z2 z3)
  have HX : Hid (Bx (some r) w ((((w3.setCell ⟨r, i * 4, none⟩ (.int .u32 z0)).setCell ⟨r, i * 4 + 1, none⟩ (.int .u32 z1)).setCell ⟨r, i * 4 + 2, none⟩ (.int .u32 z2)).setCell ⟨r, i * 4 + 3, none⟩ (.int .u32 z3))) := Lib.hid (HK.out.be.then_ (((((Bx.rfl_ _ _).setn _ _).setn _ _).setn _ _).setn _ _) (fun x e => .inl e))
  go_wp2_with fail
  exact bodyPost_end (results_none rfl _ _ _) rfl ⟨rfl, HE.out, HX.out⟩
/-- What seedsOf has made so far. -/
def Kd (w W : World) (x : Ws) (l : Dl) : Prop := Kx none w W [(w.heap.size, .cells (x.map (Value.int .u32)).toArray 24 (0, 0)), (w.heap.size + 1, .cells (sdc []) 61 (0, 0)), (w.heap.size + 1 + 1, .cells (sdc l) 61 (0, 0))]
set_option maxRecDepth 100000 in
set_option maxHeartbeats 4000000 in
theorem seeds_code (seed : Ws) (w : World) (hs : Ok4 seed) (ht : Tabs w) :
    Calls Tryd.prog 27 #[ag seed] w fun e w' => e = .returned (.agg (sdc (upto (ksd seed) 16))) ∧ Below w.heap.size w w' := by
  obtain ⟨x0, x1, x2, x3, rfl, _⟩ := ok4 hs
  obtain ⟨f, hf⟩ : ∃ f, ksd [x0, x1, x2, x3] = f := ⟨_, rfl⟩
  have huo : ∀ j, Oks (upto f j) := fun j => upto_ok fun i _ => by rw [← hf]; exact ksd_ok hs i
  have hmf : ∀ (fn : Fn) (first cap : Array Value) (w : World), (Instr.makeFunc fn first cap).run Tryd.prog w = .ok (.func fn first cap) w := fun _ _ _ _ => rfl
  have c1 := fun (j : Nat) (W : World) (hj : j < 16) (hk : Kd w W [x0, x1, x2, x3] (upto f j)) => fill_code [x0, x1, x2, x3] (upto f j) j w.heap.size (w.heap.size + 1 + 1) w.heap.size W hs hj (upto_length _ _) (huo j) (by omega) (hk.at 0 rfl) (hk.at 2 rfl) (ht.at.below hk.be.plain) (by omega)
  rw [hf] at c1 ⊢
  rw [ag4]
  have C1 : Hid (∀ (j : Nat) (W : World), j < 16 → Kd w W [x0, x1, x2, x3] (upto f j) → Calls Tryd.prog 46 #[.int .i64 (j : Int), .pointer (some ⟨w.heap.size, 0, none⟩), .pointer (some ⟨w.heap.size + 1 + 1, 0, none⟩)] W fun e w' => e = .returned (.tuple #[]) ∧ Kd w w' [x0, x1, x2, x3] (upto f (j + 1))) := Lib.hid (fun j W hj hk => (c1 j W hj hk).mono (by
    rintro e w' ⟨rfl, hb, hx⟩
    refine ⟨rfl, ?_⟩
    rw [upto_succ]
    exact hk.afterq 2 rfl (.inr (by omega)) hx hb))
  have HUO := Lib.hid huo
  have z16 := zero16
  have HK0 : Hid (Kd w (((w.alloc (.cells #[.int .u32 x0, .int .u32 x1, .int .u32 x2, .int .u32 x3] 24)).alloc (.cells (sdc []) 61)).alloc (.cells (sdc []) 61)) [x0, x1, x2, x3] []) :=
    Lib.hid ((((Kx.nil none w).more (.cells #[.int .u32 x0, .int .u32 x1, .int .u32 x2, .int .u32 x3] 24 (0, 0))).add (w.heap.size + 1) (by simp) (.cells (sdc []) 61 (0, 0))).add (w.heap.size + 1 + 1) (by simp) (.cells (sdc []) 61 (0, 0)))
  clear c1 ht huo hf hs
  go_enter Tryd.func27, Tryd.ntmps27
  go_wp2_with fail
  go_loopw [7] (fun v wr => ∃ j : Nat, j ≤ 16 ∧ v = .int .i64 (j : Int) ∧ Hid (Kd w wr [x0, x1, x2, x3] (upto f j))) (fun v _ => 16 - (intOf v).toNat)
  case atStart => exact ⟨0, Nat.zero_le _, rfl, HK0⟩
  case round =>
    obtain ⟨j, hj, rfl, HK⟩ := hrel
    by_cases hlt : j < 16
    · have i0 : (0 : Int) ≤ (j : Int) := by omega
      have i1 : (j : Int) < 16 := by omega
      go_wp2_with fail
      refine (C1.out j _ hlt HK.out).mono ?_
      rintro e w1 ⟨rfl, hk⟩
      have HK2 := Lib.hid hk
      clear hk
      go_wp2_with fail
      go_roundw
      case rel => exact ⟨j + 1, by omega, by go_num, HK2⟩
      case measure => simp [intOf]; omega
    · obtain rfl : j = 16 := by omega
      have hsz : (Tryd.prog.info? 61).map (·.size) = some (sdc (upto f 16)).size := by rw [info16s, sdc_size (HUO.out 16) (by rw [upto_length]; omega)]
      have HS := Lib.hid hsz
      have hs0 : (sdc []).size = (sdc (upto f 16)).size := by rw [sdc_size (HUO.out 16) (by rw [upto_length]; omega)]; rfl
      have HS0 := Lib.hid hs0
      clear hsz hs0
      go_upto_region 8 with fail
      refine wp_region_lit ?_
      refine wpList_load_row rfl 61 _ rfl (w.heap.size + 1 + 1) rfl 61 (sdc (upto f 16)) (0, 0) _ (HK.out.at 2 rfl) Tryd.underlying61 rfl HS.out ?_
      refine wpList_store_row rfl 61 _ _ rfl (w.heap.size + 1) (sdc (upto f 16)) rfl rfl 61 (sdc []) (HK.out.at 1 rfl) HS.out HS0.out (sdc_one _) ?_
      have HR := Lib.hid (setRow_heap wr (w.heap.size + 1) (sdc []) (sdc (upto f 16)) 61 (0, 0) (HK.out.at 1 rfl))
      have HB : Hid (Below w.heap.size w (wr.setRow (w.heap.size + 1) (sdc (upto f 16)))) := Lib.hid ⟨HK.out.be.os, HK.out.be.tape, HK.out.be.output, by rw [setRow_size]; exact HK.out.be.size, fun k hk => by rw [setRow_other _ _ _ _ (by omega)]; exact HK.out.be.plain.block k hk⟩
      go_wp2_with fail
      exact bodyPost_ret (results_cell_row rfl _ _ (w.heap.size + 1) 61 (sdc (upto f 16)) (0, 0) _ rfl HR.out Tryd.underlying61 rfl HS.out) rfl ⟨rfl, HB.out⟩
end Go.Proofs.YtfbefenagnlnfaaDoor
set_option linter.unusedVariables false
namespace Go.Proofs.YtfbefenagnlnfaaDoor
open Go.RowKit

theorem upto_take (f : Nat → Ws) {n m : Nat} (h : n ≤ m) : (upto f m).take n = upto f n := by
  unfold upto
  rw [← List.map_take, List.take_range, Nat.min_eq_left h]
/-- A block that holds a list's cells. -/
theorem DRow.block {w : World} {g : Nat} {l : Dl} {t : TypeId} (h : w.heap[g]? = some (.cells (mcs l).toArray t (0, 0))) (ho : Oks l) : DRow w g 0 l :=
  ⟨ho, (Array.getElem?_eq_some_iff.1 h).1, fun j d hj i v hi => by
    rw [cell_of_row w g _ _ t (0, 0) h, Nat.zero_add, List.getElem?_toArray]
    exact cs_at ho j d hj i v hi⟩
set_option maxRecDepth 100000 in
set_option maxHeartbeats 4000000 in
theorem publics_code (seed : Ws) (N b cap : Nat) (w : World) (hs : Ok4 seed) (h1 : 1 ≤ N) (h16 : N ≤ 16) (hr : DRow w b 0 (upto (ksd seed) N)) (ht : Tabs w) :
    Calls Tryd.prog 29 #[.slice (some ⟨b, 0, none⟩) N cap] w (KyE w (upto (kpk seed) N) N) := by
  have c2 := fun i w ht => public_code (ksd seed i) w (ksd_ok hs i) ht
  have hso := fun i => ok4 (ksd_ok hs i)
  have hko := fun i => ok4 (kpk_ok hs i)
  have HUO : Hid (Oks (upto (kpk seed) N)) := Lib.hid (upto_ok fun i _ => kpk_ok hs i)
  have HSO := Lib.hid hso
  have HKO := Lib.hid hko
  have C2 := Lib.hid c2
  have HT := Lib.hid ht
  have HR := Lib.hid hr
  have HK0 := Lib.hid (Kx.nil none w)
  obtain ⟨q0, hz, hz0, hz1, hz2⟩ := info_parts infoDg
  clear c2 hso hko hs hr ht
  go_enter Tryd.func29, Tryd.ntmps29
  go_wp2_with (at_make; refine wpList_make_own _ rfl _ _ 35 rfl w.heap.size 24 q0 _ 4 Tryd.underlying35 hz hz0 hz1 _ _ _ N rfl rfl (by omega) ?b2 ?b3 (Nat.le_refl _) ?_)
  case b2 => rw [hz2]; omega
  case b3 => unfold maxLen; omega
  intro w0 hown0 hgrow0
  have HO0 := Lib.hid hown0
  have HK1 := Lib.hid (HK0.out.grow hgrow0 (fun k hk => by cases hk))
  clear hown0 hgrow0 HK0
  go_wp2_with fail
  go_loopw [3, 11] (fun out v wr => ∃ j : Nat, j ≤ N ∧ v = .int .i64 (j : Int) ∧ Hid (Kx none w wr []) ∧ Hid (wr.ownsRow w.heap.size 24 4 out j (mcs (upto (kpk seed) j)))) (fun _ v _ => N - (intOf v).toNat)
  case atStart => exact ⟨0, Nat.zero_le _, rfl, HK1, HO0⟩
  case round =>
    clear HO0 HK1
    obtain ⟨j, hj, rfl, HK, HO⟩ := hrel
    by_cases hlt : j < N
    · have i0 : (0 : Int) ≤ (j : Int) := by omega
      have i1 : (j : Int) < (N : Int) := by omega
      obtain ⟨z0, z1, z2, z3, ez, _⟩ := HKO.out j
      obtain ⟨b0, b1, b2, b3, eb, _⟩ := HSO.out j
      have c2 := C2.out j
      rw [show pubk (ksd seed j) = kpk seed j from rfl, ez, eb, ag4, ag4] at c2
      have CW := Lib.hid c2
      have HZ := Lib.hid (upto_cells (kpk seed) j ez)
      have hg := upto_get (ksd seed) hlt
      rw [eb] at hg
      obtain ⟨a0, a1, a2, a3⟩ := (HR.out.oldn HK.out).four hg
      simp only [Nat.zero_add] at a0 a1 a2 a3
      clear c2 eb ez hg
      go_wp2_with fail
      replace HK := Lib.hid (HK.out.more (.cells #[.int .u32 b0, .int .u32 b1, .int .u32 b2, .int .u32 b3] 24 (0, 0)))
      replace HO := Lib.hid (own_keep HO.out ((Below.refl _ _).alloc (Nat.le_refl _) (.cells #[.int .u32 b0, .int .u32 b1, .int .u32 b2, .int .u32 b3] 24 (0, 0))))
      clear a0 a1 a2 a3
      refine (CW.out _ (HT.out.oldn HK.out)).mono ?_
      rintro e w3 ⟨rfl, hb⟩
      replace HK : Hid (Kx none w w3 []) := Lib.hid ((HK.out.after hb).first 0)
      replace HO := Lib.hid (own_keep HO.out hb)
      clear hb
      go_wp2_with (at_builtin; refine wpList_append_own _ rfl _ _ 35 rfl w.heap.size 24 q0 _ 4 16 Tryd.underlying35 hz hz0 hz1 hz2 rfl (by decide) _ _ _ rfl (HO.out.alloc _) ⟨w3.heap.size, 0, none⟩ 1 1 [.int .u32 z0, .int .u32 z1, .int .u32 z2, .int .u32 z3] rfl rfl (four_new _ _ _ _ _ _) (ints_oneCell _ [z0, z1, z2, z3]) ?c3 ?c4 ?c5 ?_)
      case c3 => unfold maxLen; omega
      case c4 => omega
      case c5 => have := HK.out.be.size; simp; omega
      intro v' w4 hown1 hgrow1 _
      rw [← HZ.out] at hown1
      have HO2 := Lib.hid hown1
      have HK2 : Hid (Kx none w w4 []) := Lib.hid (Kx.grow ((HK.out.more _).first 0) hgrow1 (fun g hg => ⟨(HO.out.lt g hg).1, by simp⟩))
      clear hown1 hgrow1
      go_wp2
      go_roundw
      case rel => exact ⟨j + 1, by omega, by go_num, HK2, HO2⟩
      case measure => simp [intOf]; omega
    · obtain rfl : j = N := by omega
      obtain ⟨g, cap, rfl, hg, hc1, hc2⟩ := own_shape4 HO.out (by omega)
      have HD := Lib.hid (DRow.own HO.out HUO.out)
      have HB := Lib.hid HK.out.be.plain
      have u1 : ¬ (j : Int) < (j : Int) := by omega
      go_wp2_with fail
      go_ret
      exact ⟨g, cap, rfl, hc1, hc2, HD.out, hg, HB.out⟩
set_option maxHeartbeats 1000000 in
theorem public6_no (seed : Ws) (h : Int) (w : World) (hs : Ok4 seed) (hh : h < 0 ∨ 4 < h) :
    Calls Tryd.prog 11 #[ag seed, .int .i64 h] w fun e w' => e = .returned (.tuple #[.agg #[.int .u32 0, .int .u32 0, .int .u32 0, .int .u32 0], .int .i64 2]) ∧ Below w.heap.size w w' := by
  obtain ⟨x0, x1, x2, x3, rfl, _⟩ := ok4 hs
  rw [ag4]
  have C0 := Lib.hid (fun w => count_no h w hh)
  have HK := Lib.hid (((Kx.nil none w).more (.cells #[.int .u32 x0, .int .u32 x1, .int .u32 x2, .int .u32 x3] 24 (0, 0))).add (w.heap.size + 1) (by simp) (.cells #[.int .u32 0, .int .u32 0, .int .u32 0, .int .u32 0] 24 (0, 0)))
  clear hs hh
  go_enter Tryd.func11, Tryd.ntmps11
  go_wp2_with fail
  refine (C0.out _).mono ?_
  rintro e w1 ⟨rfl, rfl⟩
  go_wp2_with fail
  exact bodyPost_ret (v := .tuple #[.agg #[.int .u32 0, .int .u32 0, .int .u32 0, .int .u32 0], .int .i64 2]) (by simp [results, go_sem]) rfl ⟨rfl, HK.out.be.plain⟩
set_option maxRecDepth 100000 in
set_option maxHeartbeats 2000000 in
theorem public6_yes (seed : Ws) (h : Nat) (w : World) (hs : Ok4 seed) (hh : h ≤ 4) (ht : Tabs w) :
    Calls Tryd.prog 11 #[ag seed, .int .i64 (h : Int)] w fun e w' => e = .returned (.tuple #[ag (kpub seed h), .int .i64 0]) ∧ Below w.heap.size w w' := by
  have o := kpub_ok hs h
  have h16 := two_le hh
  have hl := kys_length seed h
  have hp0 : 1 ≤ 2 ^ h := Nat.pow_pos (by omega)
  have c0 := fun w => count_yes h w hh
  have c1 := fun w ht => seeds_code seed w hs ht
  have c2 := fun (b cap : Nat) (w : World) (hr : DRow w b 0 (upto (ksd seed) (2 ^ h))) (ht : Tabs w) => publics_code seed (2 ^ h) b cap w hs hp0 h16 hr ht
  have c3 := fun (A : Option Addr) (cap : Nat) (w : World) (hc : 2 ^ h ≤ cap) (hm : cap ≤ 9223372036854775807) (hd : Dd w A (kys seed h)) (ht : Tabs w) => root_any (A := A) (n := 2 ^ h) w hl (by omega) hc hm hd ht
  rw [show mroot (kys seed h) = kpub seed h from rfl] at c3
  have huo : Oks (upto (ksd seed) 16) := upto_ok fun i _ => ksd_ok hs i
  have hrow : ∀ (W : World) (g : Nat), W.heap[g]? = some (.cells (sdc (upto (ksd seed) 16)) 61 (0, 0)) → DRow W g 0 (upto (ksd seed) (2 ^ h)) := fun W g hg => by
    rw [sdc_full (upto_length _ _)] at hg
    rw [← upto_take (ksd seed) h16]
    exact (DRow.block hg huo).take _
  have hsz : (Tryd.prog.info? 61).map (·.size) = some (sdc (upto (ksd seed) 16)).size := by rw [info16s, sdc_size huo (by rw [upto_length]; omega)]
  have hso := sdc_one (upto (ksd seed) 16)
  have hs0 : (sdc []).size = (sdc (upto (ksd seed) 16)).size := by rw [sdc_size huo (by rw [upto_length]; omega)]; rfl
  obtain ⟨p0, p1, p2, p3, e, _⟩ := ok4 o
  rw [e, ag4] at c3
  rw [e, ag4]
  change ∀ (b cap : Nat) (w : World), DRow w b 0 (upto (ksd seed) (2 ^ h)) → Tabs w → Calls Tryd.prog 29 #[.slice (some ⟨b, 0, none⟩) (2 ^ h) cap] w (KyE w (kys seed h) (2 ^ h)) at c2
  obtain ⟨l, hl2⟩ : ∃ l, kys seed h = l := ⟨_, rfl⟩
  obtain ⟨L, hL⟩ : ∃ L, upto (ksd seed) (2 ^ h) = L := ⟨_, rfl⟩
  obtain ⟨cs, hcs⟩ : ∃ cs, sdc (upto (ksd seed) 16) = cs := ⟨_, rfl⟩
  obtain ⟨N, hN⟩ : ∃ N, 2 ^ h = N := ⟨_, rfl⟩
  rw [hcs] at c1 hrow hsz hso hs0
  rw [hL] at c2 hrow
  rw [hl2] at c2 c3
  rw [hN] at c0 c2 c3 h16 hp0
  obtain ⟨x0, x1, x2, x3, rfl, _⟩ := ok4 hs
  rw [ag4] at c1 ⊢
  have C0 := Lib.hid c0
  have C1 := Lib.hid c1
  have C2 : Hid (∀ (b cap : Nat) (w : World), DRow w b 0 L → Tabs w → Calls Tryd.prog 29 #[.slice (some ⟨b, 0, none⟩) N cap] w fun e w' => ∃ g cap, e = .returned (.slice (some ⟨g, 0, none⟩) N cap) ∧ N ≤ cap ∧ cap ≤ maxLen ∧ DRow w' g 0 l ∧ w.heap.size ≤ g ∧ Below w.heap.size w w') := Lib.hid c2
  have C3 := Lib.hid c3
  have HROW := Lib.hid hrow
  have HSZ := Lib.hid hsz
  have HSO := Lib.hid hso
  have HS0 := Lib.hid hs0
  have z16 := zero16
  have HT := Lib.hid ht
  have HK := Lib.hid (((Kx.nil none w).more (.cells #[.int .u32 x0, .int .u32 x1, .int .u32 x2, .int .u32 x3] 24 (0, 0))).add (w.heap.size + 1) (by simp) (.cells #[.int .u32 0, .int .u32 0, .int .u32 0, .int .u32 0] 24 (0, 0)))
  have i2 : (0 : Int) ≤ (N : Int) := by omega
  have i3 : (N : Int) ≤ 16 := by omega
  obtain ⟨a0, a1, a2, a3, _⟩ := cells4 (HK.out.at 0 rfl)
  clear c0 c1 c2 c3 e o hs ht hl hl2 hN hL hcs hrow hsz hso hs0 huo
  go_enter Tryd.func11, Tryd.ntmps11
  go_wp2_with fail
  refine (C0.out _).mono ?_
  rintro e w1 ⟨rfl, rfl⟩
  go_wp2_with fail
  refine (C1.out _ (HT.out.oldn HK.out)).mono ?_
  rintro e w1 ⟨rfl, hb⟩
  replace HK := Lib.hid (HK.out.after hb)
  clear hb a0 a1 a2 a3
  have hsr : (w1.alloc (.cells (sdc []) 61)).setRow w1.heap.size cs = w1.alloc (.cells cs 61) := World.setRow_alloc_new _ _ _ _
  go_wp2_with (with_reducible refine wpList_store_row rfl 61 _ _ rfl w1.heap.size cs ?hx ?hy 61 (sdc []) ?hg HSZ.out HS0.out HSO.out ?_)
  case hx => rfl
  case hy => rfl
  case hg => exact heap_alloc_last _ _
  clear hsr
  replace HK := Lib.hid (HK.out.more (.cells cs 61 (0, 0)))
  refine (C2.out _ _ _ (HROW.out _ _ (HK.out.at 2 rfl)) (HT.out.oldn HK.out)).mono ?_
  rintro e w2 ⟨g, cap, rfl, hc1, hc2, hd, hg, hb⟩
  replace HK := Lib.hid (HK.out.after hb)
  have HD := Lib.hid (Dd.row hd)
  have HC : Hid (N ≤ cap ∧ cap ≤ 9223372036854775807) := Lib.hid ⟨hc1, hc2⟩
  clear hb hd hc1 hc2 hg
  go_wp2_with fail
  refine (C3.out _ _ _ HC.out.1 HC.out.2 HD.out (HT.out.oldn HK.out)).mono ?_
  rintro e w3 ⟨rfl, hb⟩
  replace HK := Lib.hid (HK.out.after hb)
  clear hb
  obtain ⟨a0, a1, a2, a3, d0, d1, d2, d3⟩ := cells4 (HK.out.at 1 rfl)
  have HR := Lib.hid (row4 (HK.out.at 1 rfl) (.int .u32 p0) (.int .u32 p1) (.int .u32 p2) (.int .u32 p3))
  have HE := Lib.hid (HK.out.put4 1 rfl (.inr (by simp)) (.int .u32 p0) (.int .u32 p1) (.int .u32 p2) (.int .u32 p3)).be.plain
  go_wp2_with fail
  exact bodyPost_ret (v := .tuple #[.agg #[.int .u32 p0, .int .u32 p1, .int .u32 p2, .int .u32 p3], .int .i64 0]) (by
    obtain ⟨k0, k1, k2, k3, _⟩ := cells4 HR.out
    simp [results, go_sem, k0, k1, k2, k3]) rfl ⟨rfl, HE.out⟩
end Go.Proofs.YtfbefenagnlnfaaDoor
set_option linter.unusedVariables false
namespace Go.Proofs.YtfbefenagnlnfaaDoor
open Go.RowKit

set_option maxHeartbeats 1000000 in
theorem sign6_no (seed msg : Ws) (h i : Int) (w : World) (hs : Ok4 seed) (hm : Ok4 msg) (hh : h < 0 ∨ 4 < h) :
    Calls Tryd.prog 14 #[ag seed, .int .i64 h, .int .i64 i, ag msg] w (SgE w 0 [] [] 2) := by
  obtain ⟨x0, x1, x2, x3, rfl, _⟩ := ok4 hs
  obtain ⟨y0, y1, y2, y3, rfl, _⟩ := ok4 hm
  rw [ag4, ag4]
  have C0 := Lib.hid (fun w => count_no h w hh)
  have HK := Lib.hid (Kz.new w x0 x1 x2 x3 y0 y1 y2 y3)
  clear hs hm hh
  go_enter Tryd.func14, Tryd.ntmps14
  go_wp2_with fail
  refine (C0.out _).mono ?_
  rintro e w1 ⟨rfl, rfl⟩
  go_wp2_with fail
  exact bodyPost_ret (v := .tuple #[.agg #[.int .i64 0, .slice none 0 0, .slice none 0 0], .int .i64 2]) (by simp [results, go_sem]) rfl ⟨_, rfl, SgX.zero _ _, HK.out.be.plain⟩
/-- What every call of Sign rests on whose height is right. -/
structure Sfacts (seed : Ws) (h : Nat) (cs : Array Value) (L l : Dl) (N : Nat) : Prop where
  cnt : ∀ w, Calls Tryd.prog 26 #[.int .i64 (h : Int)] w fun e w' => e = .returned (.tuple #[.int .i64 (N : Int), .int .i64 0]) ∧ w' = w
  seeds : ∀ w, Tabs w → Calls Tryd.prog 27 #[ag seed] w fun e w' => e = .returned (.agg cs) ∧ Below w.heap.size w w'
  pubs : ∀ (b cap : Nat) (w : World), DRow w b 0 L → Tabs w → Calls Tryd.prog 29 #[.slice (some ⟨b, 0, none⟩) N cap] w fun e w' => ∃ g cap, e = .returned (.slice (some ⟨g, 0, none⟩) N cap) ∧ N ≤ cap ∧ cap ≤ maxLen ∧ DRow w' g 0 l ∧ w.heap.size ≤ g ∧ Below w.heap.size w w'
  row : ∀ (W : World) (g : Nat), W.heap[g]? = some (.cells cs 61 (0, 0)) → DRow W g 0 L
  sz : (Tryd.prog.info? 61).map (·.size) = some cs.size
  one : cs.all (·.oneCell') = true
  sz0 : (sdc []).size = cs.size
  at_ : ∀ (i : Nat) (d0 d1 d2 d3 : Int), i < 16 → ksd seed i = [d0, d1, d2, d3] → cs[i * 4]? = some (.int .u32 d0) ∧ cs[i * 4 + 1]? = some (.int .u32 d1) ∧ cs[i * 4 + 2]? = some (.int .u32 d2) ∧ cs[i * 4 + 3]? = some (.int .u32 d3)
  le : N ≤ 16
theorem sfacts {seed : Ws} {h : Nat} (hs : Ok4 seed) (hh : h ≤ 4) : Sfacts seed h (sdc (upto (ksd seed) 16)) (upto (ksd seed) (2 ^ h)) (kys seed h) (2 ^ h) := by
  have h16 := two_le hh
  have huo : Oks (upto (ksd seed) 16) := upto_ok fun i _ => ksd_ok hs i
  refine ⟨fun w => count_yes h w hh, fun w ht => seeds_code seed w hs ht, fun b cap w hr ht => publics_code seed (2 ^ h) b cap w hs (Nat.pow_pos (by omega)) h16 hr ht, fun W g hg => ?_, ?_, sdc_one _, ?_, fun i d0 d1 d2 d3 hi he => ?_, h16⟩
  · rw [sdc_full (upto_length _ _)] at hg
    rw [← upto_take (ksd seed) h16]
    exact (DRow.block hg huo).take _
  · rw [info16s, sdc_size huo (by rw [upto_length]; omega)]
  · rw [sdc_size huo (by rw [upto_length]; omega)]; rfl
  · rw [sdc_full (upto_length _ _)]
    have hj := upto_get (ksd seed) hi
    rw [he] at hj
    have c := fun k v hv => cs_at huo i _ hj k v hv
    simp only [List.getElem?_toArray]
    exact ⟨c 0 d0 rfl, c 1 d1 rfl, c 2 d2 rfl, c 3 d3 rfl⟩
set_option maxRecDepth 100000 in
set_option maxHeartbeats 2000000 in
theorem sign6_arg (seed msg : Ws) (h : Nat) (i : Int) (w : World) (hs : Ok4 seed) (hm : Ok4 msg) (hh : h ≤ 4) (hi : i < 0 ∨ ((2 ^ h : Nat) : Int) ≤ i) (ht : Tabs w) :
    Calls Tryd.prog 14 #[ag seed, .int .i64 (h : Int), .int .i64 i, ag msg] w (SgE w 0 [] [] 1) := by
  have hf := sfacts hs hh
  have c3 := fun (A : Option Addr) (cap : Nat) (w : World) => prove_no (A := A) (n := 2 ^ h) (cap := cap) i w (by have := two_le hh; omega) hi
  obtain ⟨l, hl2⟩ : ∃ l, kys seed h = l := ⟨_, rfl⟩
  obtain ⟨L, hL⟩ : ∃ L, upto (ksd seed) (2 ^ h) = L := ⟨_, rfl⟩
  obtain ⟨cs, hcs⟩ : ∃ cs, sdc (upto (ksd seed) 16) = cs := ⟨_, rfl⟩
  rw [hl2, hL, hcs] at hf
  obtain ⟨N, hN⟩ : ∃ N, 2 ^ h = N := ⟨_, rfl⟩
  rw [hN] at hf c3
  obtain ⟨x0, x1, x2, x3, rfl, _⟩ := ok4 hs
  obtain ⟨y0, y1, y2, y3, rfl, _⟩ := ok4 hm
  have c1 := hf.seeds
  rw [ag4] at c1
  rw [ag4, ag4]
  have i2 : (0 : Int) ≤ (N : Int) := by omega
  have i3 : (N : Int) ≤ 16 := by have := hf.le; omega
  have HF := Lib.hid hf
  have C1 := Lib.hid c1
  have C3 : Hid (∀ (A : Option Addr) (cap : Nat) (w : World), Calls Tryd.prog 31 #[.slice A N cap, .int .i64 i] w fun e w' => ∃ v, e = .returned (.tuple #[v, .int .i64 1]) ∧ w'.ownsRow w.heap.size 24 4 v 0 (mcs []) ∧ Below w.heap.size w w') := Lib.hid c3
  have z16 := zero16
  have HT := Lib.hid ht
  have HK := Lib.hid (Kz.new w x0 x1 x2 x3 y0 y1 y2 y3)
  obtain ⟨a0, a1, a2, a3, _⟩ := cells4 (HK.out.at 0 rfl)
  clear c1 c3 hs hm ht hl2 hN hL hcs hf hi hh
  go_enter Tryd.func14, Tryd.ntmps14
  go_wp2_with fail
  refine (HF.out.cnt _).mono ?_
  rintro e w1 ⟨rfl, rfl⟩
  go_wp2_with fail
  refine (C1.out _ (HT.out.oldn HK.out)).mono ?_
  rintro e w1 ⟨rfl, hb⟩
  replace HK := Lib.hid (HK.out.after hb)
  clear hb a0 a1 a2 a3
  have hsr : (w1.alloc (.cells (sdc []) 61)).setRow w1.heap.size cs = w1.alloc (.cells cs 61) := World.setRow_alloc_new _ _ _ _
  go_wp2_with (with_reducible refine wpList_store_row rfl 61 _ _ rfl w1.heap.size cs ?hx ?hy 61 (sdc []) ?hg HF.out.sz HF.out.sz0 HF.out.one ?_)
  case hx => rfl
  case hy => rfl
  case hg => exact heap_alloc_last _ _
  clear hsr
  replace HK := Lib.hid (HK.out.more (.cells cs 61 (0, 0)))
  refine (HF.out.pubs _ _ _ (HF.out.row _ _ (HK.out.at 3 rfl)) (HT.out.oldn HK.out)).mono ?_
  rintro e w2 ⟨g, cap, rfl, _, _, _, _, hb⟩
  replace HK := Lib.hid (HK.out.after hb)
  clear hb
  go_wp2_with fail
  refine (C3.out _ _ _).mono ?_
  rintro e w3 ⟨v, rfl, _, hb⟩
  replace HK := Lib.hid (HK.out.after hb)
  clear hb
  obtain ⟨a0, a1, a2, b0, b1, b2⟩ := cells3 (HK.out.at 2 rfl)
  have HR := Lib.hid (row3 (HK.out.at 2 rfl) (.int .i64 0) (.slice none 0 0) (.slice none 0 0))
  have HE := Lib.hid (HK.out.put3 2 rfl (.inr (by omega)) (.int .i64 0) (.slice none 0 0) (.slice none 0 0)).be.plain
  go_wp2_with fail
  exact bodyPost_ret (v := .tuple #[.agg #[.int .i64 0, .slice none 0 0, .slice none 0 0], .int .i64 1]) (by
    obtain ⟨k0, k1, k2, _⟩ := cells3 HR.out
    simp [results, go_sem, k0, k1, k2]) rfl ⟨_, rfl, SgX.zero _ _, HE.out⟩
theorem allS6 {w W : World} {p q r s i : Nat} {t u v a : TypeId} {x0 x1 x2 x3 y0 y1 y2 y3 z0 z1 z2 d0 d1 d2 d3 : Value} {cs : Array Value} (h : Kx none w W [(p, .cells #[x0, x1, x2, x3] t (0, 0)), (q, .cells #[y0, y1, y2, y3] u (0, 0)), (r, .cells #[z0, z1, z2] v (0, 0)), (s, .cells cs a (0, 0))])
    (hc : cs[i * 4]? = some d0 ∧ cs[i * 4 + 1]? = some d1 ∧ cs[i * 4 + 2]? = some d2 ∧ cs[i * 4 + 3]? = some d3) :
    W.cell? ⟨q, 0, none⟩ = some y0 ∧ W.cell? ⟨q, 1, none⟩ = some y1 ∧ W.cell? ⟨q, 2, none⟩ = some y2 ∧ W.cell? ⟨q, 3, none⟩ = some y3 ∧ W.cell? ⟨s, i * 4, none⟩ = some d0 ∧ W.cell? ⟨s, i * 4 + 1, none⟩ = some d1 ∧ W.cell? ⟨s, i * 4 + 2, none⟩ = some d2 ∧ W.cell? ⟨s, i * 4 + 3, none⟩ = some d3 := by
  obtain ⟨b0, b1, b2, b3, _⟩ := cells4 (h.at 1 rfl)
  have c := fun j => cell_of_row W s j cs a (0, 0) (h.at 3 rfl)
  exact ⟨b0, b1, b2, b3, by rw [c]; exact hc.1, by rw [c]; exact hc.2.1, by rw [c]; exact hc.2.2.1, by rw [c]; exact hc.2.2.2⟩
theorem allS7 {w W : World} {p q r s i : Nat} {t u v a : TypeId} {x0 x1 x2 x3 y0 y1 y2 y3 z0 z1 z2 d0 d1 d2 d3 v0 v1 v2 : Value} {cs : Array Value} (h : Kx none w W [(p, .cells #[x0, x1, x2, x3] t (0, 0)), (q, .cells #[y0, y1, y2, y3] u (0, 0)), (r, .cells #[z0, z1, z2] v (0, 0)), (s, .cells cs a (0, 0))])
    (hc : cs[i * 4]? = some d0 ∧ cs[i * 4 + 1]? = some d1 ∧ cs[i * 4 + 2]? = some d2 ∧ cs[i * 4 + 3]? = some d3) (hr : (none : Option Nat) = some r ∨ w.heap.size ≤ r) :
    (((W.setCell ⟨r, 0, none⟩ v0).setCell ⟨r, 1, none⟩ v1).setCell ⟨r, 2, none⟩ v2).cell? ⟨q, 0, none⟩ = some y0 ∧ (((W.setCell ⟨r, 0, none⟩ v0).setCell ⟨r, 1, none⟩ v1).setCell ⟨r, 2, none⟩ v2).cell? ⟨q, 1, none⟩ = some y1 ∧ (((W.setCell ⟨r, 0, none⟩ v0).setCell ⟨r, 1, none⟩ v1).setCell ⟨r, 2, none⟩ v2).cell? ⟨q, 2, none⟩ = some y2 ∧ (((W.setCell ⟨r, 0, none⟩ v0).setCell ⟨r, 1, none⟩ v1).setCell ⟨r, 2, none⟩ v2).cell? ⟨q, 3, none⟩ = some y3 ∧ (((W.setCell ⟨r, 0, none⟩ v0).setCell ⟨r, 1, none⟩ v1).setCell ⟨r, 2, none⟩ v2).cell? ⟨s, i * 4, none⟩ = some d0 ∧ (((W.setCell ⟨r, 0, none⟩ v0).setCell ⟨r, 1, none⟩ v1).setCell ⟨r, 2, none⟩ v2).cell? ⟨s, i * 4 + 1, none⟩ = some d1 ∧ (((W.setCell ⟨r, 0, none⟩ v0).setCell ⟨r, 1, none⟩ v1).setCell ⟨r, 2, none⟩ v2).cell? ⟨s, i * 4 + 2, none⟩ = some d2 ∧ (((W.setCell ⟨r, 0, none⟩ v0).setCell ⟨r, 1, none⟩ v1).setCell ⟨r, 2, none⟩ v2).cell? ⟨s, i * 4 + 3, none⟩ = some d3 :=
  allS6 (h.put3 2 rfl hr v0 v1 v2) hc
set_option maxRecDepth 100000 in
set_option maxHeartbeats 4000000 in
theorem sign6_yes (seed msg : Ws) (h i : Nat) (w : World) (hs : Ok4 seed) (hm : Ok4 msg) (hh : h ≤ 4) (hi : i < 2 ^ h) (ht : Tabs w) :
    Calls Tryd.prog 14 #[ag seed, .int .i64 (h : Int), .int .i64 (i : Int), ag msg] w (SgE w (i : Int) (sgn (ksd seed i) msg) (mway (kys seed h) i) 0) := by
  have hf := sfacts hs hh
  have h16 := two_le hh
  have hl := kys_length seed h
  have c3 := fun (A : Option Addr) (cap : Nat) (w : World) (hc : 2 ^ h ≤ cap) (hm : cap ≤ 9223372036854775807) (hd : Dd w A (kys seed h)) (ht : Tabs w) => prove_yes (A := A) (n := 2 ^ h) (m := i) w hl (by omega) hc hm hi hd ht
  have c4 := fun w ht => sign_code (ksd seed i) msg w (ksd_ok hs i) hm ht
  have hwl : (mway (kys seed h) i).length = h := way_full h _ i hl hi
  have hwo : Oks (mway (kys seed h) i) := way_oks _ _ _ hl (kys_ok hs h)
  have ho := ksd_ok hs i
  have h35 : (sgn (ksd seed i) msg).length = 35 := upto_length _ _
  have hat := fun d0 d1 d2 d3 => hf.at_ i d0 d1 d2 d3 (by omega)
  obtain ⟨l, hl2⟩ : ∃ l, kys seed h = l := ⟨_, rfl⟩
  obtain ⟨L, hL⟩ : ∃ L, upto (ksd seed) (2 ^ h) = L := ⟨_, rfl⟩
  obtain ⟨cs, hcs⟩ : ∃ cs, sdc (upto (ksd seed) 16) = cs := ⟨_, rfl⟩
  rw [hl2, hL, hcs] at hf
  rw [hcs] at hat
  rw [hl2] at c3 hwl hwo ⊢
  obtain ⟨N, hN⟩ : ∃ N, 2 ^ h = N := ⟨_, rfl⟩
  rw [hN] at hf c3 hi h16
  obtain ⟨D, hD⟩ : ∃ D, ksd seed i = D := ⟨_, rfl⟩
  rw [hD] at c4 ho h35 hat ⊢
  obtain ⟨S, hS⟩ : ∃ S, sgn D msg = S := ⟨_, rfl⟩
  rw [hS] at c4 h35 ⊢
  obtain ⟨P, hP⟩ : ∃ P, mway l i = P := ⟨_, rfl⟩
  rw [hP] at c3 hwl hwo ⊢
  obtain ⟨d0, d1, d2, d3, rfl, _⟩ := ok4 ho
  have hat1 := hat d0 d1 d2 d3 rfl
  obtain ⟨x0, x1, x2, x3, rfl, _⟩ := ok4 hs
  obtain ⟨y0, y1, y2, y3, rfl, _⟩ := ok4 hm
  have c1 := hf.seeds
  rw [ag4] at c1
  rw [ag4, ag4] at c4
  rw [ag4, ag4]
  have HF := Lib.hid hf
  have C1 := Lib.hid c1
  have C3 : Hid (∀ (A : Option Addr) (cap : Nat) (w : World), N ≤ cap → cap ≤ 9223372036854775807 → Dd w A l → Tabs w → Calls Tryd.prog 31 #[.slice A N cap, .int .i64 (i : Int)] w fun e w' => ∃ v, e = .returned (.tuple #[v, .int .i64 0]) ∧ w'.ownsRow w.heap.size 24 4 v P.length (mcs P) ∧ Below w.heap.size w w') := Lib.hid c3
  have C4 : Hid (∀ w : World, Tabs w → Calls Tryd.prog 32 #[.agg #[.int .u32 d0, .int .u32 d1, .int .u32 d2, .int .u32 d3], .agg #[.int .u32 y0, .int .u32 y1, .int .u32 y2, .int .u32 y3]] w fun e w' => ∃ g cap, e = .returned (.slice (some ⟨g, 0, none⟩) 35 cap) ∧ 35 ≤ cap ∧ cap ≤ maxLen ∧ DRow w' g 0 S ∧ w.heap.size ≤ g ∧ Below w.heap.size w w') := Lib.hid c4
  have z16 := zero16
  have HT := Lib.hid ht
  have HP := Lib.hid hwo
  have H35 := Lib.hid h35
  have HAT := Lib.hid hat1
  have HK := Lib.hid (Kz.new w x0 x1 x2 x3 y0 y1 y2 y3)
  have i2 : (0 : Int) ≤ (N : Int) := by omega
  have i3 : (N : Int) ≤ 16 := by omega
  have i4 : (i : Int) < 16 := by omega
  have i7 : (0 : Int) ≤ (i : Int) := by omega
  obtain ⟨a0, a1, a2, a3, _⟩ := cells4 (HK.out.at 0 rfl)
  clear c1 c3 c4 hs hm hl hl2 hN h16 hi ho hD hS hP hwl hwo h35 ht hh hL hcs hf hat hat1
  go_enter Tryd.func14, Tryd.ntmps14
  go_wp2_with fail
  refine (HF.out.cnt _).mono ?_
  rintro e w1 ⟨rfl, rfl⟩
  go_wp2_with fail
  refine (C1.out _ (HT.out.oldn HK.out)).mono ?_
  rintro e w1 ⟨rfl, hb⟩
  replace HK := Lib.hid (HK.out.after hb)
  clear hb a0 a1 a2 a3
  have hsr : (w1.alloc (.cells (sdc []) 61)).setRow w1.heap.size cs = w1.alloc (.cells cs 61) := World.setRow_alloc_new _ _ _ _
  go_wp2_with (with_reducible refine wpList_store_row rfl 61 _ _ rfl w1.heap.size cs ?hx ?hy 61 (sdc []) ?hg HF.out.sz HF.out.sz0 HF.out.one ?_)
  case hx => rfl
  case hy => rfl
  case hg => exact heap_alloc_last _ _
  clear hsr
  replace HK := Lib.hid (HK.out.more (.cells cs 61 (0, 0)))
  refine (HF.out.pubs _ _ _ (HF.out.row _ _ (HK.out.at 3 rfl)) (HT.out.oldn HK.out)).mono ?_
  rintro e w2 ⟨g, cap, rfl, hc1, hc2, hd, _, hb⟩
  replace HK := Lib.hid (HK.out.after hb)
  have HD := Lib.hid (Dd.row hd)
  have HC : Hid (N ≤ cap ∧ cap ≤ 9223372036854775807) := Lib.hid ⟨hc1, hc2⟩
  clear hb hd hc1 hc2
  have hq := HK.out.lt 2 rfl
  obtain ⟨s, hs⟩ : ∃ s, w1.heap.size = s := ⟨_, rfl⟩
  rw [hs] at HK ⊢
  clear hs
  go_wp2_with fail
  refine (C3.out _ _ _ HC.out.1 HC.out.2 HD.out (HT.out.oldn HK.out)).mono ?_
  rintro e w3 ⟨v, rfl, hown, hb⟩
  replace HK := Lib.hid (HK.out.after hb)
  obtain ⟨B, d, rfl, hv⟩ := Fr.own hown HP.out hq
  obtain ⟨m, hm⟩ : ∃ m, P.length = m := ⟨_, rfl⟩
  rw [hm] at hv ⊢
  have HV := Lib.hid hv.drew
  clear hb hown hv hm HD hq HF C1 C3
  go_wp2_with fail
  replace HK := Lib.hid HK.out.drew
  have HLE : Hid (w.heap.size ≤ w.heap.size + 1 + 1) := Lib.hid (by omega)
  have HL3 : Hid (w.heap.size ≤ w.heap.size + 1 + 1 + 1) := Lib.hid (by omega)
  go_region_held3 (fun W => W.cell? ⟨w.heap.size + 1, 0, none⟩ = some (.int .u32 y0) ∧ W.cell? ⟨w.heap.size + 1, 1, none⟩ = some (.int .u32 y1) ∧ W.cell? ⟨w.heap.size + 1, 2, none⟩ = some (.int .u32 y2) ∧ W.cell? ⟨w.heap.size + 1, 3, none⟩ = some (.int .u32 y3) ∧ W.cell? ⟨s, i * 4, none⟩ = some (.int .u32 d0) ∧ W.cell? ⟨s, i * 4 + 1, none⟩ = some (.int .u32 d1) ∧ W.cell? ⟨s, i * 4 + 2, none⟩ = some (.int .u32 d2) ∧ W.cell? ⟨s, i * 4 + 3, none⟩ = some (.int .u32 d3))
    (first | (with_reducible exact allS7 HK.out HAT.out (.inr HLE.out)) | (with_reducible exact allS6 HK.out HAT.out))
    (first
      | (go_at_call 32; (with_reducible refine (C4.out _ (HT.out.oldn HK.out)).mono ?_); rintro e w' ⟨g2, cap2, rfl, s1, s2, s3, s4, hb⟩; have s5 := HK.out.lt 2 rfl; replace HK := Lib.hid (HK.out.after hb); replace HV := Lib.hid (HV.out.kept hb); have HS := Lib.hid (Fr.row H35.out s1 s2 s3 (Nat.le_trans s5 s4)); clear hb s1 s2 s3 s4 s5; obtain ⟨q0, q1, q2, r0, r1, r2⟩ := cells3 (HK.out.at 2 rfl)))
  all_goals
    have HE := Lib.hid (HK.out.put3 2 rfl (.inr HLE.out) (.int .i64 (i : Int)) (.slice (some ⟨g2, 0, none⟩) 35 cap2) (.slice B m d)).be.plain
    have HR := Lib.hid (row3 (HK.out.at 2 rfl) (.int .i64 (i : Int)) (.slice (some ⟨g2, 0, none⟩) 35 cap2) (.slice B m d))
    have F1 := Lib.hid ((((HS.out.set (Nat.lt_succ_self _) 0 (.int .i64 (i : Int))).set (Nat.lt_succ_self _) 1 (.slice (some ⟨g2, 0, none⟩) 35 cap2)).set (Nat.lt_succ_self _) 2 (.slice B m d)).low HL3.out)
    have F2 := Lib.hid ((((HV.out.set (Nat.lt_succ_self _) 0 (.int .i64 (i : Int))).set (Nat.lt_succ_self _) 1 (.slice (some ⟨g2, 0, none⟩) 35 cap2)).set (Nat.lt_succ_self _) 2 (.slice B m d)).low HL3.out)
    go_wp2_with fail
    exact bodyPost_ret (v := .tuple #[.agg #[.int .i64 (i : Int), .slice (some ⟨g2, 0, none⟩) 35 cap2, .slice B m d], .int .i64 0]) (by
      obtain ⟨k0, k1, k2, _⟩ := cells3 HR.out
      simp [results, go_sem, k0, k1, k2]) rfl ⟨_, rfl, ⟨_, _, _, _, _, _, rfl, F1.out, F2.out⟩, HE.out⟩
end Go.Proofs.YtfbefenagnlnfaaDoor
