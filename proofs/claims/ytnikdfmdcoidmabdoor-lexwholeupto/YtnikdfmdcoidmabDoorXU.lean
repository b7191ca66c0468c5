/-
  Layer 3: what stands ahead of an error has the same words.
-/
import Derived.Test.YtnikdfmdcoidmabDoorXO
namespace Go.Proofs.YtnikdfmdcoidmabDoor
open Go.RowKit Go.Shelf

theorem lx_ahead {s : ByteArray} {a : Nat} {ts : List TD} {x : Int} {p : Nat} (h : Lx s a ts x p) (hx : x ≠ 0) : a ≤ p ∧ p < s.size ∧ ∀ t ∈ ts, t.at' + t.text.size ≤ p := by
  induction h with
  | done h => exact absurd rfl hx
  | bad h hk hn => exact ⟨h.1, hk, fun t ht => (by cases ht)⟩
  | word h hk hw hr ih =>
    obtain ⟨h1, h2, h3⟩ := ih hx
    refine ⟨by have := h.1; omega, h2, fun t ht => ?_⟩
    rcases List.mem_cons.1 ht with rfl | ht
    · rw [hw.1]; exact h1
    · exact h3 t ht
theorem bt_pre {s : ByteArray} {p i : Nat} (hp : p ≤ s.size) (hi : i < p) : bt (s.extract 0 p) i = bt s i := by
  have := bt_extract s 0 p i hp (by omega)
  rwa [Nat.zero_add] at this
theorem size_pre {s : ByteArray} {p : Nat} (hp : p ≤ s.size) : (s.extract 0 p).size = p := by rw [ByteArray.size_extract]; omega
theorem wd_pre {s : ByteArray} {k p : Nat} {t : TD} (h : Wd s k t) (hk : k < s.size) (hp : p ≤ s.size) (hkp : k + t.text.size ≤ p) : Wd (s.extract 0 p) k t := by
  have hpos := wd_size h hk
  have hsz := size_pre hp
  obtain ⟨h1, h2, h3, h4⟩ := h
  have htx : t.text = (s.extract 0 p).extract k (k + t.text.size) := by
    conv => lhs; rw [h3]
    have e1 : (s.extract k (k + t.text.size)).size = t.text.size := size_mid h2
    have e2 : ((s.extract 0 p).extract k (k + t.text.size)).size = t.text.size := size_mid (by omega)
    refine ba_ext (by omega) fun i hi => ?_
    rw [e1] at hi
    rw [bt_mid' h2 hi, bt_mid' (by omega) hi, bt_pre hp (by omega)]
  have hb0 : bt (s.extract 0 p) k = bt s k := bt_pre hp (by omega)
  have hrow : RowAt s k t.text.size → RowAt (s.extract 0 p) k t.text.size := by
    intro hr
    refine ⟨by omega, fun j hj => ?_, fun hq => ?_⟩
    · rw [bt_pre hp (by omega)]; exact hr.2.1 j hj
    · rw [bt_pre hp (by omega)]; exact hr.2.2 (by omega)
  refine ⟨h1, by omega, htx, ?_⟩
  rw [hb0]
  rcases h4 with ⟨c1, r1, o1, k1, n1⟩ | ⟨c1, r1, k1, o1, n1⟩ | ⟨c1, d1, x1, o1, k1, n1⟩
  · exact .inl ⟨c1, hrow r1, o1, k1, n1⟩
  · exact .inr (.inl ⟨c1, hrow r1, k1, o1, n1⟩)
  · refine .inr (.inr ⟨c1, d1, ?_, o1, k1, n1⟩)
    have hl : (sgOf (s.extract k s.size)).size = t.text.size := by rw [← x1]
    have hu0 : (s.extract k s.size).size = s.size - k := size_suffix
    have hu : ((s.extract 0 p).extract k (s.extract 0 p).size).size = p - k := by rw [size_suffix, hsz]
    have hbu : ∀ i, i < p - k → bt ((s.extract 0 p).extract k (s.extract 0 p).size) i = bt (s.extract k s.size) i := by
      intro i hi
      rw [bt_suffix (by omega), bt_suffix (by omega), bt_pre hp (by omega)]
    have e0 := sgOf_size (s := s.extract k s.size) (by omega)
    have e := sgOf_size (s := (s.extract 0 p).extract k (s.extract 0 p).size) (by omega)
    change _ = if twoB _ = true then 2 else _ at e0
    change _ = if twoB _ = true then 2 else _ at e
    have hm : (sgOf ((s.extract 0 p).extract k (s.extract 0 p).size)).size = t.text.size := by
      rw [← hl, e, e0, hbu 0 (by omega)]
      by_cases ht : twoB (s.extract k s.size) = true
      · have h2' := twoB_iff.1 ht
        rw [if_pos ht] at e0
        rw [if_pos ht, if_pos (twoB_iff.2 ⟨by omega, by rw [hbu 0 (by omega)]; exact h2'.2.1, by rw [hbu 1 (by omega)]; exact h2'.2.2⟩)]
      · rw [if_neg ht, if_neg (fun hq => ht ?_)]
        have h2' := twoB_iff.1 hq
        have h3' := h2'.1
        rw [hu] at h3'
        rw [hbu 0 (by omega), hbu 1 (by omega)] at h2'
        exact twoB_iff.2 ⟨by omega, h2'.2⟩
    have he := sgOf_eq (s := (s.extract 0 p).extract k (s.extract 0 p).size) (by omega)
    rw [hm, extract_suffix (by omega)] at he
    rw [he]; exact htx
theorem lx_pre {s : ByteArray} {a : Nat} {ts : List TD} {x : Int} {p : Nat} (h : Lx s a ts x p) (hx : x ≠ 0) : Lx (s.extract 0 p) a ts 0 0 := by
  have hq := lx_ahead h hx
  have hsz := size_pre (s := s) (p := p) (by omega)
  induction h with
  | done h => exact absurd rfl hx
  | bad h hk hn =>
    refine .done ?_
    rw [hsz]
    refine ⟨h.1, by omega, fun j h1 h2 => ?_, fun h' => absurd h' (by omega)⟩
    rw [bt_pre (by omega) h2]
    exact h.2.2.1 j h1 h2
  | word h hk hw hr ih =>
    have hq2 := lx_ahead hr hx
    have hpos := wd_size hw hk
    refine .word ⟨h.1, by omega, fun j h1 h2 => ?_, fun h' => ?_⟩ (by omega) (wd_pre hw hk (by omega) (by omega)) (ih hx hq2 hsz)
    · rw [bt_pre (by omega) (by omega)]
      exact h.2.2.1 j h1 h2
    · rw [bt_pre (by omega) (by omega)]
      exact h.2.2.2 hk
end Go.Proofs.YtnikdfmdcoidmabDoor
