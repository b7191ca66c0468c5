/-
  What NatTells asks: 'is' without loans; Of, Bits, Text, Parse of a loan.
-/
import Derived.Test.YtcmlkofcmgbceaaDoorR4
import Derived.Test.YtcmlkofcmgbceaaDoorRT
import Derived.Test.YtcmlkofcmgbceaaDoorR8
import Derived.Test.YtcmlkofcmgbceaaDoorRA
namespace Go.Proofs.YtcmlkofcmgbceaaDoor
open Go.RowKit

set_option maxRecDepth 100000 in
set_option maxHeartbeats 1600000 in
theorem is_none {w0 w : World} {a1 a2 : Option Addr} {l1 c1 l2 c2 : Nat} {zs : List Int} (h1 : Out w0 w a1 l1 c1 zs) (h2 : Rd w a2 l2 c2 zs) :
    Calls Tryd.prog 12 #[.slice a1 l1 c1, .slice a2 l2 c2, .slice none 0 0] w fun e w' => e = .returned (.bool true) ∧ Sp (blk a1) w w' := by
  go_enter Tryd.func12, Tryd.ntmps12
  go_wp2_with fail
  refine (same_any h1.rd h2).mono ?_
  rintro e w1 ⟨rfl, n1, rfl⟩
  rw [show decide (zs = zs) = true from decide_eq_true rfl]
  go_wp2_with fail
  have o1 : Out w0 (w.drewN n1) a1 l1 c1 zs := h1.keep (h1.1.trans ((below_drewN _ w n1).mono h1.1.size)) (fun _ _ => rfl)
  refine (spoil_out o1).mono ?_
  rintro e w2 ⟨rfl, s2⟩
  replace s2 := (Sp.drewN _ w n1).trans s2
  clear o1
  go_wp2_with fail
  refine wp_loop_rounds 1 ?_
  rw [rounds_succ]
  go_wp2_with fail
  go_ret
  exact ⟨rfl, s2⟩

theorem is_two0 {w0 wc wp w1 vp v1 : World} {a a2 : Option Addr} {l c l2 c2 : Nat} {zs z2 : List Int} {n : Int} (h : Out wp w1 a l c zs) (hz : Canon zs) (hv : val zs = n) (k : Below w1.heap.size w1 wc) (h2 : Out vp v1 a2 l2 c2 z2) (hz2 : Canon z2) (hv2 : val z2 = n) (k2 : Below v1.heap.size v1 wc)
    (kp : Kept w0 wp) (kc : Kept w0 wc) :
    Calls Tryd.prog 12 #[.slice a l c, .slice a2 l2 c2, .slice none 0 0] wc fun e w' => e = .returned (.bool true) ∧ Kept w0 w' := by
  obtain rfl : zs = z2 := canon_inj hz hz2 (by rw [hv, hv2])
  refine (is_none (h.later k) (h2.later k2).rd).mono ?_
  rintro e w' ⟨rfl, hs⟩
  exact ⟨rfl, kept_sp kc hs (fun b hb => by have := (h.lt hb).1; have := Below.size kp; omega)⟩

theorem mk_S1 {w0 w : World} {p f1 g1 n1 : Nat} {X1 F1 : List Int} (x : Box w0 p f1 g1 n1 X1 F1) (k : Kept w0 w) :
    w.cell? ⟨p, 0, none⟩ = some (.slice (some ⟨f1, 0, none⟩) (n1 + 4) (n1 + 4)) ∧ w.cell? ⟨p, 1, none⟩ = some (.int .i64 n1) ∧ w.cell? ⟨p, 2, none⟩ = some (.slice (some ⟨g1, 0, none⟩) (n1 + 4) (n1 + 4)) ∧ Kept w0 w :=
  ⟨(x.below k).c0, (x.below k).c1, (x.below k).c2, k⟩

theorem of_S {w0 w : World} {n : Int} (h0 : 0 ≤ n) (h1 : n < 18446744073709551616) (_k : Kept w0 w) :
    Calls Tryd.prog 22 #[.int .u64 n] w fun e w' => ∃ ad len cap zs, e = .returned (.slice ad len cap) ∧ Out w w' ad len cap zs ∧ Canon zs ∧ val zs = n ∧ Below w.heap.size w w' := by
  refine (of_any n h0 h1 w).mono ?_
  rintro e w' ⟨ad, len, cap, zs, rfl, ho, hc, hv, hl⟩
  exact ⟨ad, len, cap, zs, rfl, ho, hc, hv, ho.1⟩
theorem refof_S {w0 w : World} {n : Int} (h0 : 0 ≤ n) (h1 : n < 18446744073709551616) (_k : Kept w0 w) :
    Calls Tryd.prog 23 #[.int .u64 n] w fun e w' => ∃ ad len cap zs, e = .returned (.slice ad len cap) ∧ Out w w' ad len cap zs ∧ Canon zs ∧ val zs = n ∧ Below w.heap.size w w' := by
  refine (refof_any n h0 h1 w).mono ?_
  rintro e w' ⟨ad, len, cap, zs, rfl, ho, hc, hv, hl⟩
  exact ⟨ad, len, cap, zs, rfl, ho, hc, hv, ho.1⟩
theorem bits_S {w0 w : World} {p f1 g1 n1 : Nat} {X1 F1 : List Int} {m : Int} (x : Box w0 p f1 g1 n1 X1 F1) (hm : Hid (bitsL (trim X1) = m)) (k : Kept w0 w) :
    Calls Tryd.prog 24 #[.slice (some ⟨f1, 0, none⟩) n1 (n1 + 4)] w fun e w' => e = .returned (.int .i64 m) ∧ Below w.heap.size w w' := by
  refine (bits_any (x.below k).lent.rd x.lent.2.2.2.2.2).mono ?_
  rintro e w' ⟨rfl, rfl⟩
  exact ⟨by rw [hm.out], Below.refl _ _⟩
theorem refbits_S {w0 w : World} {a1 : Option Addr} {l1 c1 : Nat} {xs : List Int} {m : Int} (h1 : Rd w0 a1 l1 c1 xs) (hl1 : l1 ≤ 1048576) (hm : Hid (bitsL (trim xs) = m)) (k : Kept w0 w) :
    Calls Tryd.prog 25 #[.slice a1 l1 c1] w fun e w' => e = .returned (.int .i64 m) ∧ Below w.heap.size w w' := by
  refine (refbits_any (h1.below k) (by omega)).mono ?_
  rintro e w' ⟨rfl, hb⟩
  exact ⟨by rw [hm.out], hb⟩
theorem text_S {w0 w : World} {p f1 g1 n1 : Nat} {X1 F1 : List Int} {t : ByteArray} (x : Box w0 p f1 g1 n1 X1 F1) (tb : Tab w0) (ht : Hid (⟨(Lib.decDigits (val X1).toNat).toArray⟩ = t)) (k : Kept w0 w) :
    Calls Tryd.prog 26 #[.slice (some ⟨f1, 0, none⟩) n1 (n1 + 4)] w fun e w' => e = .returned (.string t) ∧ Below w.heap.size w w' := by
  refine (text_any (x.below k).lent.rd x.lent.2.2.2.2.2 (tb.below k)).mono ?_
  rintro e w' ⟨rfl, hb⟩
  exact ⟨by rw [ht.out], hb⟩
theorem reftext_S {w0 w : World} {a1 : Option Addr} {l1 c1 : Nat} {xs : List Int} {t : ByteArray} (h1 : Rd w0 a1 l1 c1 xs) (hl1 : l1 ≤ 1048576) (ht : Hid (⟨(Lib.decDigits (val xs).toNat).toArray⟩ = t)) (k : Kept w0 w) :
    Calls Tryd.prog 27 #[.slice a1 l1 c1] w fun e w' => e = .returned (.string t) ∧ Below w.heap.size w w' := by
  refine (reftext_any (h1.below k) (by omega)).mono ?_
  rintro e w' ⟨rfl, hb⟩
  exact ⟨by rw [ht.out], hb⟩
theorem same_S {w0 w : World} {p f1 g1 n1 : Nat} {X1 F1 : List Int} (x : Box w0 p f1 g1 n1 X1 F1) (k : Kept w0 w) :
    Calls Tryd.prog 28 #[.slice (some ⟨f1, 0, none⟩) (n1 + 4) (n1 + 4), .slice (some ⟨g1, 0, none⟩) (n1 + 4) (n1 + 4)] w fun e w' => e = .returned (.bool true) ∧ Below w.heap.size w w' := by
  have L := (x.below k).lent
  have hn := L.2.2.2.2.2
  have hF := L.2.2.1
  have e1 := L.1.rd L.2.2.2.1 (off := 0) (len := n1 + 4) (cap := n1 + 4) (by omega) (Nat.le_refl _) (by omega)
  have e2 := L.2.1.rd L.2.2.2.1 (off := 0) (len := n1 + 4) (cap := n1 + 4) (by omega) (Nat.le_refl _) (by omega)
  refine (same_quiet e1 e2).mono ?_
  rintro e w' ⟨rfl, q, rfl⟩
  exact ⟨rfl, below_drewN _ _ _⟩
/-- Parse of whatever text -/
theorem parse_SS (s : ByteArray) (w : World) (hs : s.size ≤ 1048576) :
    Calls Tryd.prog 20 #[.string s] w fun e w' => ∃ (ad : Option Addr) (len cap : Nat) (er : Int), e = .returned (.tuple #[.slice ad len cap, .int .i64 er]) ∧
      Hid ((¬ okText s ∧ er = 12 ∧ len = 0) ∨ (okText s ∧ er = 0 ∧ ∃ zs, Out w w' ad len cap zs ∧ Canon zs ∧ val zs = (dr s 0 s.size : Int))) ∧ Below w.heap.size w w' := by
  by_cases h : okText s
  · refine (parse_yes s w (by omega) h).mono ?_
    rintro e w' ⟨ad, len, cap, zs, rfl, ho, hc, hv, hl⟩
    exact ⟨ad, len, cap, 0, rfl, hide (Or.inr ⟨h, rfl, zs, ho, hc, hv⟩), ho.1⟩
  · refine (parse_no s w (by omega) h).mono ?_
    rintro e w' ⟨rfl, rfl⟩
    exact ⟨none, 0, 0, 12, rfl, hide (Or.inl ⟨h, rfl, rfl⟩), Below.refl _ _⟩
theorem refparse_SS (s : ByteArray) (w : World) (hs : s.size ≤ 1048576) :
    Calls Tryd.prog 21 #[.string s] w fun e w' => ∃ (ad : Option Addr) (len cap : Nat) (fine : Bool), e = .returned (.tuple #[.slice ad len cap, .bool fine]) ∧
      Hid ((¬ okText s ∧ fine = false ∧ len = 0) ∨ (okText s ∧ fine = true ∧ ∃ zs, Out w w' ad len cap zs ∧ Canon zs ∧ val zs = (dr s 0 s.size : Int))) ∧ Below w.heap.size w w' := by
  by_cases h : okText s
  · refine (refparse_yes s w (by omega) h).mono ?_
    rintro e w' ⟨ad, len, cap, zs, rfl, ho, hc, hv, hl⟩
    exact ⟨ad, len, cap, true, rfl, hide (Or.inr ⟨h, rfl, zs, ho, hc, hv⟩), ho.1⟩
  · refine (refparse_no s w (by omega) h).mono ?_
    rintro e w' ⟨rfl, rfl⟩
    exact ⟨none, 0, 0, false, rfl, hide (Or.inl ⟨h, rfl, rfl⟩), Below.refl _ _⟩
end Go.Proofs.YtcmlkofcmgbceaaDoor
