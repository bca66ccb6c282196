/- Texts of digests, and back: plain lemmas; what calls keep: any number of blocks. -/
import Derived.Test.YtaogndcaabnboaaDoorDigL
set_option linter.unusedVariables false
namespace Go.Proofs.YtaogndcaabnboaaDoor
open Go.RowKit

theorem map_rv_rv {l : Ws} (h : ∀ x ∈ l, W32 x) : (l.map rv).map rv = l := by
  rw [List.map_map]
  conv => rhs; rw [← List.map_id l]
  apply List.map_congr_left
  intro x hx
  exact rv_rv (h x hx)
theorem w32_lt {x : Int} (h : W32 x) : 0 ≤ x ∧ x < 4294967296 := ⟨h.1, by have := h.2; omega⟩
theorem big_back {l : Ws} (h : Ok4 l) : (wdsL (nums (big l))).map rv = l := by
  have hr := rv_ok4 h
  have hb : ∀ z ∈ l.map rv, 0 ≤ z ∧ z < 4294967296 := fun z hz => w32_lt (hr.2 z hz)
  unfold big
  rw [nums_strOfNums _ (bytsAll_byte _ hb), wdsL_bytsAll _ hb, map_rv_rv h.2]
theorem str_mk (s : ByteArray) : (⟨s.data.toList.toArray⟩ : ByteArray) = s := by
  apply ByteArray.ext
  simp
theorem dtx_list (l : Ws) : (dtx l).data.toList = txt (big l).data.toList := by simp [dtx]
theorem len_dtx {l : Ws} (h : Ok4 l) : (txt (big l).data.toList).length = 32 := by
  rw [(nd_txt _).2, list_size, size_big, h.1]
theorem size_dtx {l : Ws} (h : Ok4 l) : (dtx l).size = 32 := by rw [← list_size, dtx_list, len_dtx h]
theorem prd_dtx {l : Ws} (h : Ok4 l) : prd (dtx l).data.toList = (l, 0) := by
  rw [dtx_list, prd_ok (len_dtx h) ((nd_txt _).1.trans (len_dtx h)), load_txt, str_mk, big_back h]
theorem sg_dg : ∀ n, n < 16 → (48 ≤ (sg n).toNat ∧ (sg n).toNat ≤ 57) ∨ (97 ≤ (sg n).toNat ∧ (sg n).toNat ≤ 102) := by decide
theorem txt_dg : ∀ (s : List UInt8), ∀ x ∈ txt s, (48 ≤ x.toNat ∧ x.toNat ≤ 57) ∨ (97 ≤ x.toNat ∧ x.toNat ≤ 102)
  | [], x, hx => by simp [txt] at hx
  | c :: r, x, hx => by
    have hc := c.toNat_lt
    simp only [txt, List.mem_append] at hx
    rcases hx with hx | hx
    · simp only [Go.Proofs.YtaogndcaabnboaaDoor.hx, List.mem_cons, List.not_mem_nil, or_false] at hx
      rcases hx with rfl | rfl
      · exact sg_dg _ (by omega)
      · exact sg_dg _ (by omega)
    · exact txt_dg r x hx

/-- A digit, small. -/
def low (c : UInt8) : UInt8 := if 65 ≤ c.toNat ∧ c.toNat ≤ 70 then c + 32 else c
theorem sg_low : ∀ n : Fin 256, tv n.val ≠ 0 → sg (tv n.val - 1) = low (UInt8.ofNat n.val) := by decide +kernel
theorem sg_low' (c : UInt8) (h : tv c.toNat ≠ 0) : sg (tv c.toNat - 1) = low c := by
  have := sg_low ⟨c.toNat, c.toNat_lt⟩ h
  simpa using this
theorem txt_load : ∀ (n : Nat) (l : List UInt8), l.length = 2 * n → nd l = l.length → txt (load l) = l.map low
  | 0, l, h, _ => by
    have : l = [] := List.length_eq_zero_iff.1 (by omega)
    subst this; rfl
  | n + 1, c :: d :: r, h, h2 => by
    have hc : tv c.toNat ≠ 0 := by
      intro h0
      simp [nd, h0] at h2
    rw [nd_cons c _ hc] at h2
    have hd : tv d.toNat ≠ 0 := by
      intro h0
      simp [nd, h0] at h2
    rw [nd_cons d _ hd] at h2
    have ih := txt_load n r (by simp at h; omega) (by simp at h2; omega)
    have c35 : c.toNat ≠ 35 := fun e => hc (by rw [e]; rfl)
    have c10 : c.toNat ≠ 10 := fun e => hc (by rw [e]; rfl)
    have d35 : d.toNat ≠ 35 := fun e => hd (by rw [e]; rfl)
    have d10 : d.toNat ≠ 10 := fun e => hd (by rw [e]; rfl)
    have lc := tv_le c.toNat
    have ld := tv_le d.toNat
    have e : load (c :: d :: r) = UInt8.ofNat (16 * (tv c.toNat - 1) + (tv d.toNat - 1)) :: load r := by
      unfold load
      rw [lds_fst _ _ _ c35 c10 hc, lds_snd _ _ _ d35 d10 hd, lds_low]
    have hb : (UInt8.ofNat (16 * (tv c.toNat - 1) + (tv d.toNat - 1))).toNat = 16 * (tv c.toNat - 1) + (tv d.toNat - 1) := by simp; omega
    rw [e, txt, hx, hb, ih, show (16 * (tv c.toNat - 1) + (tv d.toNat - 1)) / 16 = tv c.toNat - 1 by omega, show (16 * (tv c.toNat - 1) + (tv d.toNat - 1)) % 16 = tv d.toNat - 1 by omega, sg_low' c hc, sg_low' d hd]
    rfl
  | n + 1, [], h, _ => by simp at h
  | n + 1, [_], h, _ => by simp at h; omega
theorem dtx_read {t : ByteArray} (h : t.size = 32) (h2 : nd t.data.toList = 32) : (dtx ((wdsL (nums ⟨(load t.data.toList).toArray⟩)).map rv)).data.toList = t.data.toList.map low := by
  have hl : t.data.toList.length = 32 := by rw [list_size]; exact h
  have hn : (nums ⟨(load t.data.toList).toArray⟩).length = 4 * 4 := by rw [length_nums, size_mk, load16 hl h2]
  have hw := wdsL_word 4 _ hn (nums_byte _)
  have hbig : big ((wdsL (nums ⟨(load t.data.toList).toArray⟩)).map rv) = ⟨(load t.data.toList).toArray⟩ := by
    unfold big
    rw [map_rv_rv (fun x hx => ⟨(hw x hx).1, by have := (hw x hx).2; omega⟩), bytsAll_wdsL 4 _ hn (nums_byte _), strOfNums_nums]
  rw [dtx_list, hbig]
  show txt (load t.data.toList) = t.data.toList.map low
  exact txt_load 16 _ (by omega) (by omega)

/-- Blocks that a call keeps. -/
structure Kl (w W : World) (bs : List (Nat × Obj)) : Prop where
  all : ∀ x ∈ bs, W.heap[x.1]? = some x.2 ∧ x.1 < W.heap.size
  be : Below w.heap.size w W
theorem Kl.after {w W W' : World} {bs : List (Nat × Obj)} (h : Kl w W bs) (hb : Below W.heap.size W W') : Kl w W' bs :=
  ⟨fun x hx => ⟨by rw [hb.block _ (h.all x hx).2]; exact (h.all x hx).1, Nat.lt_of_lt_of_le (h.all x hx).2 hb.size⟩, h.be.trans (hb.mono h.be.size)⟩
theorem Kl.drew {w W : World} {bs : List (Nat × Obj)} (h : Kl w W bs) : Kl w W.drew bs := ⟨h.all, h.be.drew⟩
theorem Kl.nil (w : World) : Kl w w [] := ⟨fun x hx => by simp at hx, Below.refl _ _⟩
theorem Kl.more {w W : World} {bs : List (Nat × Obj)} (h : Kl w W bs) (B : Obj) : Kl w (W.alloc B) (bs ++ [(W.heap.size, B)]) := by
  refine ⟨fun x hx => ?_, h.be.alloc h.be.size _⟩
  rcases List.mem_append.1 hx with hx | hx
  · obtain ⟨h1, h2⟩ := h.all x hx
    exact ⟨by rw [Below.heap_alloc _ _ _ h2]; exact h1, by simp; omega⟩
  · simp only [List.mem_cons, List.not_mem_nil, or_false] at hx
    subst hx
    exact ⟨heap_alloc_new _ _, by simp⟩
theorem Kl.at {w W : World} {bs : List (Nat × Obj)} (h : Kl w W bs) (i : Nat) {x : Nat × Obj} (hx : bs[i]? = some x) : W.heap[x.1]? = some x.2 := (h.all x (List.mem_of_getElem? hx)).1
theorem Kl.lt {w W : World} {bs : List (Nat × Obj)} (h : Kl w W bs) (i : Nat) {x : Nat × Obj} (hx : bs[i]? = some x) : x.1 < W.heap.size := (h.all x (List.mem_of_getElem? hx)).2
end Go.Proofs.YtaogndcaabnboaaDoor
