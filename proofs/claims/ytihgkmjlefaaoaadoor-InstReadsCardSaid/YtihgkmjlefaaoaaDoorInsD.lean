/- The reference of layer 7: the contract of Text. -/
import Derived.Test.YtihgkmjlefaaoaaDoorInsC
import Derived.Test.YtihgkmjlefaaoaaDoorText
set_option linter.unusedVariables false
namespace Go.Proofs.YtihgkmjlefaaoaaDoor
open Go.RowKit

theorem number_ref (n : Int) (w : World) (h0 : 0 ≤ n) (h1 : n < 4294967296) :
    Calls Tryd.prog 29 #[.int .i64 n] w fun e w' => e = .returned (.string ⟨(Lib.decDigits n.toNat).toArray⟩) ∧ Below w.heap.size w w' := by
  obtain ⟨k, rfl⟩ : ∃ k : Nat, n = (k : Int) := ⟨n.toNat, by omega⟩
  have c1 := fun w => ref_text k w (by omega)
  rw [Int.toNat_natCast]
  obtain ⟨D, hD⟩ : ∃ D : ByteArray, ⟨(Lib.decDigits k).toArray⟩ = D := ⟨_, rfl⟩
  rw [hD] at c1 ⊢
  have C1 := Lib.hid c1
  have i2 : (k : Int) % 4294967296 = (k : Int) := by omega
  clear c1 hD
  go_enter Tryd.func29, Tryd.ntmps29
  go_wp2_with fail
  refine (C1.out _).mono ?_
  rintro e w1 ⟨rfl, hb⟩
  go_wp2_with fail
  go_ret
  exact ⟨rfl, hb⟩
/-- What is still to come of the text, from the part k on. -/
def rst (a b c : Int) (ps : List UInt8) (k : Nat) : List UInt8 := if k = 0 then fls a b c ps else fds a b c (ps.drop k)
theorem rst_all (a b c : Int) (ps : List UInt8) : rst a b c ps ps.length = [] := by
  unfold rst
  split
  · rename_i h
    rw [List.eq_nil_of_length_eq_zero h]; rfl
  · rw [List.drop_length]; rfl
theorem rst_step (a b c : Int) {ps : List UInt8} {k : Nat} {p : UInt8} (h : ps[k]? = some p) : rst a b c ps k = (if k = 0 then [32] else [44, 32]) ++ fld p a b c ++ rst a b c ps (k + 1) := by
  have hd : ps.drop k = p :: ps.drop (k + 1) := by
    obtain ⟨hk, e⟩ := List.getElem?_eq_some_iff.1 h
    rw [List.drop_eq_getElem_cons hk, e]
  unfold rst
  rw [if_neg (show ¬ k + 1 = 0 by omega)]
  by_cases h0 : k = 0
  · subst h0
    rw [if_pos rfl, if_pos rfl]
    rw [List.drop_zero] at hd
    rw [hd, fls]
    rfl
  · rw [if_neg h0, if_neg h0, hd, fds]
theorem fld_len {a b c : Int} (ha : a < 4294967296) (hb : b < 4294967296) (hc : c < 4294967296) (p : UInt8) : (fld p a b c).length ≤ 11 := by
  have la := length_dec 9 a.toNat (by omega)
  have lb := length_dec 9 b.toNat (by omega)
  have lc := length_dec 9 c.toNat (by omega)
  unfold fld
  split
  · simp; omega
  · split
    · simp; omega
    · split
      · simp; omega
      · omega
theorem fds_len {a b c : Int} (ha : a < 4294967296) (hb : b < 4294967296) (hc : c < 4294967296) : ∀ ps : List UInt8, (fds a b c ps).length ≤ 13 * ps.length
  | [] => by simp [fds]
  | p :: ps => by
    have := fds_len ha hb hc ps
    have := fld_len ha hb hc p
    simp [fds]; omega
theorem txi_len {op a b c : Int} (ha : a < 4294967296) (hb : b < 4294967296) (hc : c < 4294967296) : (txi op a b c).length ≤ 60 := by
  have h1 : (nam op).length ≤ 4 := by
    have h : ∀ k, k < 27 → (nml.getD k []).length ≤ 4 := by decide
    unfold nam
    split
    · exact h _ (by omega)
    · simp
  have h2 : (prt op).length ≤ 3 := by
    have := prt_size op
    have e : (⟨(prt op).toArray⟩ : ByteArray).size = (prt op).length := by show (prt op).toArray.size = _; simp
    omega
  have h3 : (fls a b c (prt op)).length ≤ 13 * (prt op).length := by
    cases hp : prt op with
    | nil => simp [fls]
    | cons p ps =>
      have := fds_len ha hb hc ps
      have := fld_len ha hb hc p
      simp [fls]; omega
  unfold txi
  rw [List.length_append]
  omega
set_option maxRecDepth 100000 in
set_option maxHeartbeats 4000000 in
theorem text_yes (op a b c : Int) (w : World) (hr : rgt op a b c = true) :
    Calls Tryd.prog 15 #[.agg #[.int .i64 op, .int .i64 a, .int .i64 b, .int .i64 c]] w fun e w' => e = .returned (.string ⟨(txi op a b c).toArray⟩) ∧ Below w.heap.size w w' := by
  have hbd := rgt_bounds hr
  have hlen := txi_len (op := op) (a := a) (b := b) (c := c) (by omega) (by omega) (by omega)
  have c1 := fun w => right_ref op a b c w
  rw [hr] at c1
  have c2 := fun w => parts_ref op w
  have c3 := fun w => name_ref op w
  have ca := fun w => number_ref a w (by omega) (by omega)
  have cb := fun w => number_ref b w (by omega) (by omega)
  have cc := fun w => number_ref c w (by omega) (by omega)
  have hps := prt_size op
  obtain ⟨S, hS⟩ : ∃ S : ByteArray, ⟨(prt op).toArray⟩ = S := ⟨_, rfl⟩
  have hSl : S.data.toList = prt op := by rw [← hS]
  rw [hS] at c2 hps
  obtain ⟨NM, hNM⟩ : ∃ S : ByteArray, ⟨(nam op).toArray⟩ = S := ⟨_, rfl⟩
  rw [hNM] at c3
  have HNM : Hid (NM.data.toList ++ rst a b c S.data.toList 0 = txi op a b c) := Lib.hid (by rw [← hNM, hSl]; rfl)
  obtain ⟨DA, hDA⟩ : ∃ D : ByteArray, ⟨(Lib.decDigits a.toNat).toArray⟩ = D := ⟨_, rfl⟩
  obtain ⟨DB, hDB⟩ : ∃ D : ByteArray, ⟨(Lib.decDigits b.toNat).toArray⟩ = D := ⟨_, rfl⟩
  obtain ⟨DC, hDC⟩ : ∃ D : ByteArray, ⟨(Lib.decDigits c.toNat).toArray⟩ = D := ⟨_, rfl⟩
  have la := length_dec 9 a.toNat (by omega)
  have lb := length_dec 9 b.toNat (by omega)
  have lc := length_dec 9 c.toNat (by omega)
  have sa : DA.size ≤ 10 := by rw [← hDA]; show (Lib.decDigits a.toNat).toArray.size ≤ 10; simpa using la
  have sb : DB.size ≤ 10 := by rw [← hDB]; show (Lib.decDigits b.toNat).toArray.size ≤ 10; simpa using lb
  have sc : DC.size ≤ 10 := by rw [← hDC]; show (Lib.decDigits c.toNat).toArray.size ≤ 10; simpa using lc
  have HFL : Hid (∀ p, fld p a b c = if p = 97 then 114 :: DA.data.toList else if p = 98 then 114 :: DB.data.toList else if p = 114 then 114 :: DC.data.toList else DC.data.toList) := Lib.hid (by
    intro p
    rw [← hDA, ← hDB, ← hDC]
    rfl)
  rw [hDA] at ca
  rw [hDB] at cb
  rw [hDC] at cc
  have HSZ := Lib.hid (And.intro sa (And.intro sb sc))
  have C1 := Lib.hid c1
  have C2 := Lib.hid c2
  have C3 := Lib.hid c3
  have CA := Lib.hid ca
  have CB := Lib.hid cb
  have CC := Lib.hid cc
  have HL := Lib.hid hlen
  have HSL := Lib.hid hSl
  have HK := Lib.hid ((Kx.nil none w).more (.cells #[.int .i64 op, .int .i64 a, .int .i64 b, .int .i64 c] 23 (0, 0)))
  obtain ⟨T, hT⟩ : ∃ T, txi op a b c = T := ⟨_, rfl⟩
  rw [hT] at HNM HL ⊢
  clear c1 c2 c3 ca cb cc hS hNM hr hT hSl hbd hlen hDA hDB hDC la lb lc sa sb sc
  obtain ⟨a0, a1, a2, a3, _⟩ := cells4 (HK.out.at 0 rfl)
  go_enter Tryd.func15, Tryd.ntmps15
  go_wp2_with fail
  refine (C1.out _).mono ?_
  rintro e w1 ⟨rfl, hb⟩
  replace HK := Lib.hid (HK.out.after hb)
  clear hb a0 a1 a2 a3
  obtain ⟨a0, a1, a2, a3, _⟩ := cells4 (HK.out.at 0 rfl)
  go_wp2_with fail
  refine (C2.out _).mono ?_
  rintro e w2 ⟨rfl, rfl⟩
  go_wp2_with fail
  refine (C3.out _).mono ?_
  rintro e w2 ⟨rfl, rfl⟩
  go_wp2_with fail
  go_loopw [4, 5] (fun sv v wr => ∃ (k : Nat) (G : ByteArray), k ≤ S.size ∧ v = .int .i64 (k : Int) ∧ sv = .string G ∧ Hid (G.data.toList ++ rst a b c S.data.toList k = T) ∧ Hid (Kx none w wr [(w.heap.size, .cells #[.int .i64 op, .int .i64 a, .int .i64 b, .int .i64 c] 23 (0, 0))])) (fun _ v _ => S.size - (intOf v).toNat)
  case atStart => exact ⟨0, NM, Nat.zero_le _, rfl, rfl, HNM, HK⟩
  case round =>
    clear HK a0 a1 a2 a3
    obtain ⟨k, G, hk, rfl, rfl, HX, HK⟩ := hrel
    by_cases hlt : k < S.size
    · have i1 : (k : Int) < (S.size : Int) := by omega
      have i0 : (0 : Int) ≤ (k : Int) := by omega
      obtain ⟨p, hp⟩ : ∃ p, S[k] = p := ⟨_, rfl⟩
      have hg : S.data.toList[k]? = some p := by
        rw [List.getElem?_eq_getElem (by rw [show S.data.toList.length = S.size from by simp]; exact hlt), ← hp]; rfl
      have hx := HX.out
      rw [rst_step a b c hg] at hx
      have hsz : G.size ≤ 60 := by
        have h1 := HL.out
        rw [← hx] at h1
        simp only [List.length_append] at h1
        have e : G.data.toList.length = G.size := by simp
        omega
      rw [HFL.out] at hx
      obtain ⟨a0, a1, a2, a3, _⟩ := cells4 (HK.out.at 0 rfl)
      have HG := Lib.hid hsz
      clear hsz HX
      by_cases k0 : k = 0
      · have e0 : ((k : Int) == 0) = true := by rw [beq_iff_eq]; omega
        rw [if_pos k0] at hx
        have HX2 := Lib.hid hx
        clear hx k0
        by_cases p97 : p = 97
        · have e97 : ((p.toNat : Int) == 97) = true := by rw [beq_iff_eq, p97]; rfl
          rw [if_pos p97] at HX2
          clear p97
          have hs := HSZ.out
          have hg2 := HG.out
          have n1 : ¬ 9223372036854775807 < G.size + 1 := by omega
          have n2 : ¬ 9223372036854775807 < G.size + 1 + 1 := by omega
          have n3 : ¬ 9223372036854775807 < G.size + 1 + 1 + DA.size := by omega
          have n4 : ¬ 9223372036854775807 < G.size + 2 := by omega
          have n5 : ¬ 9223372036854775807 < G.size + 2 + DA.size := by omega
          clear hs hg2
          go_wp2_with fail
          refine (CA.out _).mono ?_
          rintro e w3 ⟨rfl, hb⟩
          replace HK : Hid (Kx none w w3 [(w.heap.size, .cells #[.int .i64 op, .int .i64 a, .int .i64 b, .int .i64 c] 23 (0, 0))]) := Lib.hid (HK.out.after hb)
          clear hb a0 a1 a2 a3
          go_wp2_with fail
          go_roundw
          case rel => exact ⟨k + 1, ((G ++ ⟨#[32]⟩) ++ ⟨#[114]⟩) ++ DA, by omega, by go_num, rfl, Lib.hid (by rw [← HX2.out]; simp [ByteArray.data_append]), HK⟩
          case measure => simp [intOf]; omega
        · have e97 : ((p.toNat : Int) == 97) = false := by
            rw [beq_eq_false_iff_ne]
            intro e
            exact p97 (UInt8.toNat_inj.1 (by have h : (97 : UInt8).toNat = 97 := rfl; omega))
          rw [if_neg p97] at HX2
          clear p97
          by_cases p98 : p = 98
          · have e98 : ((p.toNat : Int) == 98) = true := by rw [beq_iff_eq, p98]; rfl
            rw [if_pos p98] at HX2
            clear p98
            have hs := HSZ.out
            have hg2 := HG.out
            have n1 : ¬ 9223372036854775807 < G.size + 1 := by omega
            have n2 : ¬ 9223372036854775807 < G.size + 1 + 1 := by omega
            have n3 : ¬ 9223372036854775807 < G.size + 1 + 1 + DB.size := by omega
            have n4 : ¬ 9223372036854775807 < G.size + 2 := by omega
            have n5 : ¬ 9223372036854775807 < G.size + 2 + DB.size := by omega
            clear hs hg2
            go_wp2_with fail
            refine (CB.out _).mono ?_
            rintro e w3 ⟨rfl, hb⟩
            replace HK : Hid (Kx none w w3 [(w.heap.size, .cells #[.int .i64 op, .int .i64 a, .int .i64 b, .int .i64 c] 23 (0, 0))]) := Lib.hid (HK.out.after hb)
            clear hb a0 a1 a2 a3
            go_wp2_with fail
            go_roundw
            case rel => exact ⟨k + 1, ((G ++ ⟨#[32]⟩) ++ ⟨#[114]⟩) ++ DB, by omega, by go_num, rfl, Lib.hid (by rw [← HX2.out]; simp [ByteArray.data_append]), HK⟩
            case measure => simp [intOf]; omega
          · have e98 : ((p.toNat : Int) == 98) = false := by
              rw [beq_eq_false_iff_ne]
              intro e
              exact p98 (UInt8.toNat_inj.1 (by have h : (98 : UInt8).toNat = 98 := rfl; omega))
            rw [if_neg p98] at HX2
            clear p98
            by_cases p114 : p = 114
            · have e114 : ((p.toNat : Int) == 114) = true := by rw [beq_iff_eq, p114]; rfl
              rw [if_pos p114] at HX2
              clear p114
              have hs := HSZ.out
              have hg2 := HG.out
              have n1 : ¬ 9223372036854775807 < G.size + 1 := by omega
              have n2 : ¬ 9223372036854775807 < G.size + 1 + 1 := by omega
              have n3 : ¬ 9223372036854775807 < G.size + 1 + 1 + DC.size := by omega
              have n4 : ¬ 9223372036854775807 < G.size + 2 := by omega
              have n5 : ¬ 9223372036854775807 < G.size + 2 + DC.size := by omega
              clear hs hg2
              go_wp2_with fail
              refine (CC.out _).mono ?_
              rintro e w3 ⟨rfl, hb⟩
              replace HK : Hid (Kx none w w3 [(w.heap.size, .cells #[.int .i64 op, .int .i64 a, .int .i64 b, .int .i64 c] 23 (0, 0))]) := Lib.hid (HK.out.after hb)
              clear hb a0 a1 a2 a3
              go_wp2_with fail
              go_roundw
              case rel => exact ⟨k + 1, ((G ++ ⟨#[32]⟩) ++ ⟨#[114]⟩) ++ DC, by omega, by go_num, rfl, Lib.hid (by rw [← HX2.out]; simp [ByteArray.data_append]), HK⟩
              case measure => simp [intOf]; omega
            · have e114 : ((p.toNat : Int) == 114) = false := by
                rw [beq_eq_false_iff_ne]
                intro e
                exact p114 (UInt8.toNat_inj.1 (by have h : (114 : UInt8).toNat = 114 := rfl; omega))
              rw [if_neg p114] at HX2
              clear p114
              have hs := HSZ.out
              have hg2 := HG.out
              have n1 : ¬ 9223372036854775807 < G.size + 1 := by omega
              have n3 : ¬ 9223372036854775807 < G.size + 1 + DC.size := by omega
              clear hs hg2
              go_wp2_with fail
              refine (CC.out _).mono ?_
              rintro e w3 ⟨rfl, hb⟩
              replace HK : Hid (Kx none w w3 [(w.heap.size, .cells #[.int .i64 op, .int .i64 a, .int .i64 b, .int .i64 c] 23 (0, 0))]) := Lib.hid (HK.out.after hb)
              clear hb a0 a1 a2 a3
              go_wp2_with fail
              go_roundw
              case rel => exact ⟨k + 1, (G ++ ⟨#[32]⟩) ++ DC, by omega, by go_num, rfl, Lib.hid (by rw [← HX2.out]; simp [ByteArray.data_append]), HK⟩
              case measure => simp [intOf]; omega
      · have e0 : ((k : Int) == 0) = false := by rw [beq_eq_false_iff_ne]; omega
        rw [if_neg k0] at hx
        have HX2 := Lib.hid hx
        clear hx k0
        by_cases p97 : p = 97
        · have e97 : ((p.toNat : Int) == 97) = true := by rw [beq_iff_eq, p97]; rfl
          rw [if_pos p97] at HX2
          clear p97
          have hs := HSZ.out
          have hg2 := HG.out
          have n1 : ¬ 9223372036854775807 < G.size + 2 := by omega
          have n2 : ¬ 9223372036854775807 < G.size + 2 + 1 := by omega
          have n3 : ¬ 9223372036854775807 < G.size + 2 + 1 + DA.size := by omega
          have n4 : ¬ 9223372036854775807 < G.size + 3 := by omega
          have n5 : ¬ 9223372036854775807 < G.size + 3 + DA.size := by omega
          clear hs hg2
          go_wp2_with fail
          refine (CA.out _).mono ?_
          rintro e w3 ⟨rfl, hb⟩
          replace HK : Hid (Kx none w w3 [(w.heap.size, .cells #[.int .i64 op, .int .i64 a, .int .i64 b, .int .i64 c] 23 (0, 0))]) := Lib.hid (HK.out.after hb)
          clear hb a0 a1 a2 a3
          go_wp2_with fail
          go_roundw
          case rel => exact ⟨k + 1, ((G ++ ⟨#[44, 32]⟩) ++ ⟨#[114]⟩) ++ DA, by omega, by go_num, rfl, Lib.hid (by rw [← HX2.out]; simp [ByteArray.data_append]), HK⟩
          case measure => simp [intOf]; omega
        · have e97 : ((p.toNat : Int) == 97) = false := by
            rw [beq_eq_false_iff_ne]
            intro e
            exact p97 (UInt8.toNat_inj.1 (by have h : (97 : UInt8).toNat = 97 := rfl; omega))
          rw [if_neg p97] at HX2
          clear p97
          by_cases p98 : p = 98
          · have e98 : ((p.toNat : Int) == 98) = true := by rw [beq_iff_eq, p98]; rfl
            rw [if_pos p98] at HX2
            clear p98
            have hs := HSZ.out
            have hg2 := HG.out
            have n1 : ¬ 9223372036854775807 < G.size + 2 := by omega
            have n2 : ¬ 9223372036854775807 < G.size + 2 + 1 := by omega
            have n3 : ¬ 9223372036854775807 < G.size + 2 + 1 + DB.size := by omega
            have n4 : ¬ 9223372036854775807 < G.size + 3 := by omega
            have n5 : ¬ 9223372036854775807 < G.size + 3 + DB.size := by omega
            clear hs hg2
            go_wp2_with fail
            refine (CB.out _).mono ?_
            rintro e w3 ⟨rfl, hb⟩
            replace HK : Hid (Kx none w w3 [(w.heap.size, .cells #[.int .i64 op, .int .i64 a, .int .i64 b, .int .i64 c] 23 (0, 0))]) := Lib.hid (HK.out.after hb)
            clear hb a0 a1 a2 a3
            go_wp2_with fail
            go_roundw
            case rel => exact ⟨k + 1, ((G ++ ⟨#[44, 32]⟩) ++ ⟨#[114]⟩) ++ DB, by omega, by go_num, rfl, Lib.hid (by rw [← HX2.out]; simp [ByteArray.data_append]), HK⟩
            case measure => simp [intOf]; omega
          · have e98 : ((p.toNat : Int) == 98) = false := by
              rw [beq_eq_false_iff_ne]
              intro e
              exact p98 (UInt8.toNat_inj.1 (by have h : (98 : UInt8).toNat = 98 := rfl; omega))
            rw [if_neg p98] at HX2
            clear p98
            by_cases p114 : p = 114
            · have e114 : ((p.toNat : Int) == 114) = true := by rw [beq_iff_eq, p114]; rfl
              rw [if_pos p114] at HX2
              clear p114
              have hs := HSZ.out
              have hg2 := HG.out
              have n1 : ¬ 9223372036854775807 < G.size + 2 := by omega
              have n2 : ¬ 9223372036854775807 < G.size + 2 + 1 := by omega
              have n3 : ¬ 9223372036854775807 < G.size + 2 + 1 + DC.size := by omega
              have n4 : ¬ 9223372036854775807 < G.size + 3 := by omega
              have n5 : ¬ 9223372036854775807 < G.size + 3 + DC.size := by omega
              clear hs hg2
              go_wp2_with fail
              refine (CC.out _).mono ?_
              rintro e w3 ⟨rfl, hb⟩
              replace HK : Hid (Kx none w w3 [(w.heap.size, .cells #[.int .i64 op, .int .i64 a, .int .i64 b, .int .i64 c] 23 (0, 0))]) := Lib.hid (HK.out.after hb)
              clear hb a0 a1 a2 a3
              go_wp2_with fail
              go_roundw
              case rel => exact ⟨k + 1, ((G ++ ⟨#[44, 32]⟩) ++ ⟨#[114]⟩) ++ DC, by omega, by go_num, rfl, Lib.hid (by rw [← HX2.out]; simp [ByteArray.data_append]), HK⟩
              case measure => simp [intOf]; omega
            · have e114 : ((p.toNat : Int) == 114) = false := by
                rw [beq_eq_false_iff_ne]
                intro e
                exact p114 (UInt8.toNat_inj.1 (by have h : (114 : UInt8).toNat = 114 := rfl; omega))
              rw [if_neg p114] at HX2
              clear p114
              have hs := HSZ.out
              have hg2 := HG.out
              have n1 : ¬ 9223372036854775807 < G.size + 2 := by omega
              have n3 : ¬ 9223372036854775807 < G.size + 2 + DC.size := by omega
              clear hs hg2
              go_wp2_with fail
              refine (CC.out _).mono ?_
              rintro e w3 ⟨rfl, hb⟩
              replace HK : Hid (Kx none w w3 [(w.heap.size, .cells #[.int .i64 op, .int .i64 a, .int .i64 b, .int .i64 c] 23 (0, 0))]) := Lib.hid (HK.out.after hb)
              clear hb a0 a1 a2 a3
              go_wp2_with fail
              go_roundw
              case rel => exact ⟨k + 1, (G ++ ⟨#[44, 32]⟩) ++ DC, by omega, by go_num, rfl, Lib.hid (by rw [← HX2.out]; simp [ByteArray.data_append]), HK⟩
              case measure => simp [intOf]; omega
    · obtain rfl : k = S.size := by omega
      have hx := HX.out
      rw [show S.size = S.data.toList.length from by simp, rst_all, List.append_nil] at hx
      have HG : Hid (G = ⟨T.toArray⟩) := Lib.hid (by obtain ⟨⟨g⟩⟩ := G; simp at hx; rw [hx])
      have u1 : ¬ ((S.size : Nat) : Int) < (S.size : Int) := by omega
      go_wp2_with fail
      go_ret
      exact ⟨by rw [HG.out]; rfl, HK.out.be.plain⟩
theorem text_no (op a b c : Int) (w : World) (hr : rgt op a b c = false) :
    Calls Tryd.prog 15 #[.agg #[.int .i64 op, .int .i64 a, .int .i64 b, .int .i64 c]] w fun e w' => e = .returned (.string ⟨#[]⟩) ∧ Below w.heap.size w w' := by
  have c1 := fun w => right_ref op a b c w
  rw [hr] at c1
  have C1 := Lib.hid c1
  have HK := Lib.hid ((Kx.nil none w).more (.cells #[.int .i64 op, .int .i64 a, .int .i64 b, .int .i64 c] 23 (0, 0)))
  clear c1 hr
  obtain ⟨a0, a1, a2, a3, _⟩ := cells4 (HK.out.at 0 rfl)
  go_enter Tryd.func15, Tryd.ntmps15
  go_wp2_with fail
  refine (C1.out _).mono ?_
  rintro e w1 ⟨rfl, hb⟩
  replace HK := Lib.hid (HK.out.after hb)
  clear hb a0 a1 a2 a3
  go_wp2_with fail
  go_ret
  exact ⟨rfl, HK.out.be.plain⟩
theorem text7_ref (op a b c : Int) (w : World) :
    Calls Tryd.prog 15 #[.agg #[.int .i64 op, .int .i64 a, .int .i64 b, .int .i64 c]] w fun e w' => e = .returned (.string ⟨(itx op a b c).toArray⟩) ∧ Below w.heap.size w w' := by
  unfold itx
  cases hr : rgt op a b c with
  | false => exact text_no op a b c w hr
  | true => exact text_yes op a b c w hr
end Go.Proofs.YtihgkmjlefaaoaaDoor
