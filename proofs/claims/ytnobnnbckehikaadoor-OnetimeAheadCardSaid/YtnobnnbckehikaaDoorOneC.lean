/- A message's numbers: the contract of the reference's Steps. -/
import Derived.Test.YtnobnnbckehikaaDoorOneB
import Derived.Test.YtnobnnbckehikaaDoorDigY
set_option linter.unusedVariables false
namespace Go.Proofs.YtnobnnbckehikaaDoor
open Go.RowKit

/-- The digits as letters. -/
theorem txt_append (a b : List UInt8) : txt (a ++ b) = txt a ++ txt b := by
  induction a with
  | nil => rfl
  | cons c r ih => simp [txt, ih]
theorem hx_num (n : Nat) (h : n < 256) : hx (UInt8.ofNat n) = [sg (n / 16), sg (n % 16)] := by
  have e : (UInt8.ofNat n).toNat = n := by simp; omega
  unfold hx; rw [e]
theorem txt_word {x : Int} (h : W32 x) : txt ((be4 x).map fun n => UInt8.ofNat n.toNat) = (hxs 8 x.toNat).map sg := by
  obtain ⟨X, rfl⟩ := Int.eq_ofNat_of_zero_le h.1
  have hX : X < 4294967296 := by have := h.2; omega
  have e : (be4 (X : Int)).map (fun n => UInt8.ofNat n.toNat) = [UInt8.ofNat (X / 16777216), UInt8.ofNat (X / 65536 % 256), UInt8.ofNat (X / 256 % 256), UInt8.ofNat (X % 256)] := by
    simp only [be4, List.map_cons, List.map_nil]
    rw [show ((X : Int) / 16777216).toNat = X / 16777216 by omega, show ((X : Int) / 65536 % 256).toNat = X / 65536 % 256 by omega, show ((X : Int) / 256 % 256).toNat = X / 256 % 256 by omega, show ((X : Int) % 256).toNat = X % 256 by omega]
  rw [e]
  simp only [txt]
  rw [hx_num _ (by omega), hx_num _ (by omega), hx_num _ (by omega), hx_num _ (by omega)]
  simp only [hxs, Int.toNat_natCast, List.map_cons, List.map_nil, List.append_nil, List.cons_append, List.nil_append]
  rw [show X / 16777216 / 16 = X / 16 ^ 7 % 16 by omega, show X / 16777216 % 16 = X / 16 ^ 6 % 16 by omega, show X / 65536 % 256 / 16 = X / 16 ^ 5 % 16 by omega, show X / 65536 % 256 % 16 = X / 16 ^ 4 % 16 by omega,
    show X / 256 % 256 / 16 = X / 16 ^ 3 % 16 by omega, show X / 256 % 256 % 16 = X / 16 ^ 2 % 16 by omega, show X % 256 / 16 = X / 16 ^ 1 % 16 by omega, show X % 256 % 16 = X / 16 ^ 0 % 16 by omega]
theorem dtx_digits {m : Ws} (h : Ok4 m) : (dtx m).data.toList = (bse m).map sg := by
  obtain ⟨a, b, c, d, rfl, ha, hb, hc, hd⟩ := ok4 h
  unfold dtx
  rw [big4 ha hb hc hd, bse4]
  have e : ((((⟨#[]⟩ : ByteArray) ++ strOfNums (be4 a)) ++ strOfNums (be4 b)) ++ strOfNums (be4 c) ++ strOfNums (be4 d)).data.toList = (be4 a).map (fun n => UInt8.ofNat n.toNat) ++ ((be4 b).map (fun n => UInt8.ofNat n.toNat) ++ ((be4 c).map (fun n => UInt8.ofNat n.toNat) ++ (be4 d).map (fun n => UInt8.ofNat n.toNat))) := by
    simp [strOfNums]
  rw [e, txt_append, txt_append, txt_append, txt_word ha, txt_word hb, txt_word hc, txt_word hd]
  simp
theorem dtx_size {m : Ws} (h : Ok4 m) : (dtx m).size = 32 := by
  have := congrArg List.length (dtx_digits h)
  rw [List.length_map, bse_length h] at this
  rw [← this]; simp
theorem dtx_byte {m : Ws} (h : Ok4 m) (k : Nat) (hk : k < (dtx m).size) : (dtx m)[k] = sg ((bse m).getD k 0) := by
  have h32 := dtx_size h
  have e : (dtx m).data.toList[k]? = some ((dtx m)[k]) := by
    rw [List.getElem?_eq_getElem (by simpa using hk)]
    rfl
  rw [dtx_digits h, List.getElem?_map, List.getElem?_eq_getElem (by rw [bse_length h]; omega)] at e
  have e2 := Option.some.inj e
  rw [← e2, List.getD_eq_getElem?_getD, List.getElem?_eq_getElem (by rw [bse_length h]; omega)]
  rfl
theorem sg_low {d : Nat} (h : d < 10) : (sg d).toNat = 48 + d := by
  unfold sg
  rw [if_pos h]
  simp; omega
theorem sg_high {d : Nat} (h : ¬ d < 10) (h2 : d < 16) : (sg d).toNat = 87 + d := by
  unfold sg
  rw [if_neg h]
  simp; omega
theorem hx3_cells {s : Nat} (h : s ≤ 480) : ics (hxs 3 s) = [.int .i64 ((s : Int) / 256), .int .i64 ((s : Int) / 16 % 16), .int .i64 ((s : Int) % 16)] := by
  simp only [ics, hxs, List.map_cons, List.map_nil]
  rw [show ((s / 16 ^ 2 % 16 : Nat) : Int) = (s : Int) / 256 by omega, show ((s / 16 ^ 1 % 16 : Nat) : Int) = (s : Int) / 16 % 16 by omega, show ((s / 16 ^ 0 % 16 : Nat) : Int) = (s : Int) % 16 by omega]
set_option maxRecDepth 100000 in
set_option maxHeartbeats 2000000 in
theorem steps_ref (m : Ws) (w : World) (hm : Ok4 m) :
    Calls Tryd.prog 13 #[ag m] w (StpE w (nms m)) := by
  have hlen := bse_length hm
  have hlt := bse_lt m
  have hms := lft_msg hm
  have hsz := dtx_size hm
  have c1 := fun w => dtext_ref m w hm
  obtain ⟨l, hl⟩ : ∃ l, bse m = l := ⟨_, rfl⟩
  obtain ⟨T, hT⟩ : ∃ T, dtx m = T := ⟨_, rfl⟩
  unfold nms
  rw [hl] at hlen hlt hms ⊢
  rw [hT] at hsz c1
  have hby : ∀ (k : Nat) (hk : k < T.size), T[k] = sg (l.getD k 0) := by
    intro k hk
    subst hT hl
    exact dtx_byte hm k hk
  obtain ⟨a, b, c, d, rfl, _⟩ := ok4 hm
  rw [ag4] at c1
  rw [ag4]
  have C1 := Lib.hid c1
  have HBY := Lib.hid hby
  have HLT := Lib.hid hlt
  obtain ⟨i0, hi, hz0, hz1, hz2⟩ := info_parts infoI
  have HK := Lib.hid ((Kx.nil none w).more (.cells #[.int .u32 a, .int .u32 b, .int .u32 c, .int .u32 d] 24 (0, 0)))
  clear c1 hby hlt hl hT hm
  go_enter Tryd.func13, Tryd.ntmps13
  go_wp2_with fail
  refine (C1.out _).mono ?_
  rintro e w1 ⟨rfl, hb⟩
  have HB1 := Lib.hid (HK.out.after hb).be.plain
  clear hb HK
  go_wp2_with fail
  go_loopw [4, 5, 6] (fun out sum si wr => ∃ j : Nat, j ≤ 32 ∧ si = .int .i64 (j : Int) ∧ sum = .int .i64 ((lft (l.take j) : Nat) : Int) ∧ Hid (wr.ownsRow w.heap.size 3 1 out j (ics (l.take j))) ∧ Hid (Below w.heap.size w wr)) (fun _ _ si _ => 32 - (intOf si).toNat)
  case atStart => exact ⟨0, by omega, rfl, rfl, World.ownsRow_nil _ _ _ _, HB1⟩
  case round =>
    obtain ⟨j, hj, rfl, rfl, HO, HB⟩ := hrel
    by_cases hjl : j < 32
    · have j0 : (0 : Int) ≤ (j : Int) := by omega
      have j1 : (j : Int) < (T.size : Int) := by omega
      have hbj := HBY.out j (by omega)
      have ht := lft_take (l := l) (j := j) (by omega)
      have htk : l.take (j + 1) = l.take j ++ [l.getD j 0] := by
        rw [List.take_succ_eq_append_getElem (by omega), List.getD_eq_getElem?_getD, List.getElem?_eq_getElem (by omega)]; rfl
      have hd : l.getD j 0 < 16 := by
        rw [List.getD_eq_getElem?_getD, List.getElem?_eq_getElem (by omega)]
        exact HLT.out _ (List.getElem_mem _)
      have hle : lft (l.take (j + 1)) ≤ 480 := by
        have := lft_le (l.take (j + 1))
        rw [List.length_take] at this
        omega
      obtain ⟨d, e⟩ : ∃ d, l.getD j 0 = d := ⟨_, rfl⟩
      obtain ⟨s, es⟩ : ∃ s, lft (l.take j) = s := ⟨_, rfl⟩
      obtain ⟨s2, es2⟩ : ∃ s2, lft (l.take (j + 1)) = s2 := ⟨_, rfl⟩
      rw [e] at hd ht htk hbj
      rw [es, es2] at ht
      rw [es2] at hle
      rw [es]
      have ES2 := Lib.hid es2
      have HTK := Lib.hid htk
      obtain ⟨x, hx⟩ : ∃ x, T[j]'(by omega) = x := ⟨_, rfl⟩
      rw [hx] at hbj
      by_cases h10 : d < 10
      · have hv : x.toNat = 48 + d := by rw [hbj]; exact sg_low h10
        have e48 : 48 + (d : Int) - 48 = (d : Int) := by omega
        clear e es es2 htk hbj
        go_wp2_with (at_builtin; refine wpList_append_own _ rfl _ _ 27 rfl w.heap.size 3 i0 (.int .i64 0) 1 8 Tryd.underlying27 hi hz0 hz1 hz2 rfl (by decide) _ _ _ rfl (HO.out.alloc _) ⟨wr.heap.size, 0, none⟩ 1 1 (ics [d]) rfl rfl (one_new _ _ _) (ics_one _) ?c3 ?c4 ?c5 ?_)
        case c3 => unfold maxLen; omega
        case c4 => omega
        case c5 => have := HB.out.size; simp; omega
        intro v' w2 hown1 hgrow1 _
        have hown2 : w2.ownsRow w.heap.size 3 1 v' (j + 1) (ics (l.take (j + 1))) := by rw [HTK.out, ics_append]; exact hown1
        have HO2 := Lib.hid hown2
        have HB2 := Lib.hid ((HB.out.alloc (by have := HB.out.size; omega) _).grown hgrow1 (by simp; have := HB.out.size; omega) (fun k hk => (HO.out.lt k hk).1))
        clear hown1 hown2 hgrow1
        go_wp2
        go_roundw
        case rel => exact ⟨j + 1, by omega, by go_num, by rw [ES2.out]; go_num, HO2, HB2⟩
        case measure => simp [intOf]; omega
      · have hv : x.toNat = 87 + d := by rw [hbj]; exact sg_high h10 hd
        have e97 : 87 + (d : Int) - 97 + 10 = (d : Int) := by omega
        clear e es es2 htk hbj
        go_wp2_with (at_builtin; refine wpList_append_own _ rfl _ _ 27 rfl w.heap.size 3 i0 (.int .i64 0) 1 8 Tryd.underlying27 hi hz0 hz1 hz2 rfl (by decide) _ _ _ rfl (HO.out.alloc _) ⟨wr.heap.size, 0, none⟩ 1 1 (ics [d]) rfl rfl (one_new _ _ _) (ics_one _) ?c3 ?c4 ?c5 ?_)
        case c3 => unfold maxLen; omega
        case c4 => omega
        case c5 => have := HB.out.size; simp; omega
        intro v' w2 hown1 hgrow1 _
        have hown2 : w2.ownsRow w.heap.size 3 1 v' (j + 1) (ics (l.take (j + 1))) := by rw [HTK.out, ics_append]; exact hown1
        have HO2 := Lib.hid hown2
        have HB2 := Lib.hid ((HB.out.alloc (by have := HB.out.size; omega) _).grown hgrow1 (by simp; have := HB.out.size; omega) (fun k hk => (HO.out.lt k hk).1))
        clear hown1 hown2 hgrow1
        go_wp2
        go_roundw
        case rel => exact ⟨j + 1, by omega, by go_num, by rw [ES2.out]; go_num, HO2, HB2⟩
        case measure => simp [intOf]; omega
    · obtain rfl : j = 32 := by omega
      rw [List.take_of_length_le (by omega)] at HO ⊢
      obtain ⟨s, es⟩ : ∃ s, lft l = s := ⟨_, rfl⟩
      rw [es] at hms ⊢
      have i1 : (0 : Int) ≤ (s : Int) := by omega
      have i2 : (s : Int) ≤ 480 := by omega
      have HX3 := Lib.hid (hx3_cells hms)
      go_wp2_with (at_builtin; refine wpList_append_own _ rfl _ _ 27 rfl w.heap.size 3 i0 (.int .i64 0) 1 8 Tryd.underlying27 hi hz0 hz1 hz2 rfl (by decide) _ _ _ rfl (HO.out.alloc _) ⟨wr.heap.size, 0, none⟩ 3 3 [.int .i64 ((s : Int) / 256), .int .i64 ((s : Int) / 16 % 16), .int .i64 ((s : Int) % 16)] rfl rfl (World.news_of_block (cs := #[.int .i64 ((s : Int) / 256), .int .i64 ((s : Int) / 16 % 16), .int .i64 ((s : Int) % 16)]) (t := 3) (fr := (0, 0)) (heap_alloc_new wr _)) (by simp [Value.oneCell']) ?c3 ?c4 ?c5 ?_)
      case c3 => unfold maxLen; omega
      case c4 => omega
      case c5 => have := HB.out.size; simp; omega
      intro v' w2 hown1 hgrow1 _
      have hown2 : w2.ownsRow w.heap.size 3 1 v' 35 (ics (l ++ hxs 3 s)) := by rw [ics_append, HX3.out]; exact hown1
      have HO2 := Lib.hid hown2
      have HB2 := Lib.hid ((HB.out.alloc (by have := HB.out.size; omega) _).grown hgrow1 (by simp; have := HB.out.size; omega) (fun k hk => (HO.out.lt k hk).1))
      clear hown1 hown2 hgrow1
      go_wp2
      go_ret
      obtain ⟨g, cap, rfl, hg, h1, h2⟩ := own_shape1 HO2.out (by omega)
      refine ⟨_, _, rfl, h1, h2, ?_, hg, HB2.out⟩
      first | exact IRow.own HO2.out | (rw [es]; exact IRow.own HO2.out)
end Go.Proofs.YtnobnnbckehikaaDoor
