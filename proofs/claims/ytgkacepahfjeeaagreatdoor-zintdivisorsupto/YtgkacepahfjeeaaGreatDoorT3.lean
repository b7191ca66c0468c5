/-
  Walks: Text.
-/
import Derived.Test.YtgkacepahfjeeaaGreatDoorT2
namespace Go.Proofs.YtgkacepahfjeeaaGreatDoor
open Go.RowKit

theorem builder_below {T e : TypeId} {B b : Nat} {bs : List Value} {w w' : World} (h : Lib.IsBuilder T e B b bs w) (hb : Below w.heap.size w w') : Lib.IsBuilder T e B b bs w' := by
  have key : ∀ p, Lib.BuilderAt T e B b p bs w → Lib.BuilderAt T e B b p bs w' := by
    rintro p ⟨hB, v, hbk, hown, hne⟩
    have hlt : b < w.heap.size := by
      rcases Nat.lt_or_ge b w.heap.size with h' | h'
      · exact h'
      · rw [Array.getElem?_eq_none h'] at hbk; cases hbk
    exact ⟨hB, v, by rw [hb.block b hlt]; exact hbk, hown.kept (row := none) ⟨hb.os, hb.tape, hb.output, hb.size, fun k hk _ => hb.block k hk⟩ (by
      cases hq : v.ownBlock with
      | none => exact .inl rfl
      | some k => exact .inr (by simp)), hne⟩
  rcases h with h | h
  · exact .inl (key _ h)
  · exact .inr (key _ h)

theorem builder_new (T e : TypeId) (w : World) : Lib.IsBuilder T e w.heap.size w.heap.size (Lib.byteCells []) (w.alloc (.cells #[.pointer none, .slice none 0 0] T)) :=
  .inl ⟨Nat.le_refl _, .slice none 0 0, heap_alloc_new w _, World.ownsRow_nil _ _ _ _, by simp [Value.ownBlock]⟩

theorem strCells_list (l : List UInt8) : Lib.strCells ⟨l.toArray⟩ = Lib.byteCells l := by
  simp [Lib.strCells, Lib.byteCells]

theorem byteCells_append (l r : List UInt8) : Lib.byteCells l ++ Lib.byteCells r = Lib.byteCells (l ++ r) := by
  simp [Lib.byteCells]

theorem size_list (l : List UInt8) : (⟨l.toArray⟩ : ByteArray).size = l.length := by
  show l.toArray.size = _
  simp

set_option maxRecDepth 100000 in
set_option maxHeartbeats 1600000 in
theorem text_any {a1 : Option Addr} {l1 c1 : Nat} {xs : List Int} {w : World} (h1 : Rd w a1 l1 c1 xs) (hl : l1 ≤ 1099511627776) (htab : Tab w) :
    Calls Tryz.prog 48 #[.slice a1 l1 c1] w fun e w' => e = .returned (.string ⟨(Lib.decDigits (val xs).toNat).toArray⟩) ∧ Below w.heap.size w w' := by
  go_enter Tryz.func48, Tryz.ntmps48
  go_wp2_with fail
  refine (cut_any h1 hl).mono ?_
  rintro e wB ⟨adP, n, cap, ps, rfl, hoP, hn0, hnb, hpc, hpv, hlast⟩
  have hrd := hoP.rd
  obtain ⟨bP, oP, rfl, gP⟩ := hrd.some hn0
  have hBel := hoP.1
  obtain ⟨m, rfl⟩ : ∃ m, n = m + 1 := ⟨n - 1, by omega⟩
  have hbuild := builder_new 76 5 wB
  have htabB := htab.below hBel
  have hltP : bP < wB.heap.size := (hoP.lt rfl).2
  have hp := hpc.limbs
  have HPV := hide hpv
  have HLAST := hide hlast
  have HPC := hide hpc
  have hA1 : Below wB.heap.size wB (wB.alloc (.cells #[.pointer none, .slice none 0 0] 76)) := (Below.refl _ _).alloc (Nat.le_refl _) _
  have gA : ∀ i, i < m + 1 → (wB.alloc (.cells #[.pointer none, .slice none 0 0] 76)).cell? ⟨bP, oP + i, none⟩ = some (.int .u32 (lz ps i)) := fun i hi => (hA1.cell (p := ⟨bP, oP + i, none⟩) hltP).trans (gP i hi)
  have gAm := gA m (by omega)
  clear hpv hlast hpc gA
  obtain ⟨u, hu⟩ := Int.eq_ofNat_of_zero_le (lz_bd hp m).1
  have hu2 := (lz_bd hp m).2
  rw [hu] at gAm
  have HU := hide hu
  clear hu
  have hpl : ps.length = m + 1 := hrd.1
  have HPL := hide hpl
  have hu3 : u < 1000000000 := by
    have := unhide HPC (lz ps m) (by
      have e : lz ps m = ps[m]'(by omega) := by simp [lz, List.getD, hpl]
      rw [e]; exact List.getElem_mem _)
    have := unhide HU
    omega
  have hulen := dec_length_le 9 u hu3 (by decide)
  have hA2 := htabB.below hA1
  clear hpl
  go_wp2_with fail
  refine (digits_any u (by omega) _ hA2).mono ?_
  rintro e w1 ⟨rfl, hb1⟩
  have hbu1 := builder_below hbuild hb1
  have hsz1 : wB.heap.size + 1 ≤ w1.heap.size := by have := hb1.size; simpa using this
  have hB1 : Below wB.heap.size wB w1 := hA1.trans (hb1.mono (by simp))
  clear hbuild hb1 hA2
  go_wp2_with fail
  refine (write_lay wB.heap.size wB.heap.size _ _ w1 hbu1 (by rw [Lib.byteCells_length, size_list]; simp; omega) (by omega)).mono ?_
  rintro e w2 ⟨rfl, hbu2, hb2⟩
  rw [strCells_list, byteCells_append, List.nil_append] at hbu2
  have hB2 : Below wB.heap.size wB w2 := hB1.trans hb2
  have hsz2 : wB.heap.size + 1 ≤ w2.heap.size := by have := hb2.size; omega
  have hhi := hide (hi_last (unhide HPL) (unhide HU))
  clear hbu1 hb2 hB1 hsz1 gAm
  go_wp2_with fail
  go_loopw [6] (fun i wr => ∃ k : Nat, k ≤ m ∧ i = .int .i64 ((k : Int) - 1) ∧ Lib.IsBuilder 76 5 wB.heap.size wB.heap.size (Lib.byteCells (Lib.decDigits (hi ps k))) wr ∧ Below wB.heap.size wB wr ∧ wB.heap.size + 1 ≤ wr.heap.size ∧ (Lib.decDigits (hi ps k)).length ≤ 9 * (m + 1 - k)) (fun i _ => (intOf i + 1).toNat)
  case atStart => exact ⟨m, Nat.le_refl _, rfl, .inr (by rw [unhide hhi]; exact hbu2), hB2, hsz2, by rw [unhide hhi]; omega⟩
  case round =>
    obtain ⟨k, hk, rfl, hbu, hB, hsz, hlen⟩ := hrel
    clear hbu2 hB2 hsz2
    cases k with
    | zero =>
      go_wp2_with fail
      refine (string_lay _ _ _ wr hbu (by omega)).mono ?_
      rintro e w3 ⟨rfl, hb3⟩
      have hfin : Hid (hi ps 0 = (val xs).toNat) := by
        show _ = _
        unfold hi
        rw [List.drop_zero, unhide HPV]
      have hBf := hide (hBel.trans ((hB.trans hb3).mono hBel.size))
      go_wp2_with fail
      go_ret
      rw [unhide hfin]
      exact ⟨rfl, unhide hBf⟩
    | succ j =>
      have hbj := lz_bd hp j
      have hlast : lz ps m ≠ 0 := by have := (unhide HLAST) (by omega); simpa using this
      have hpos := hi_pos (unhide HPC) (unhide HPL) hlast (j + 1) (by omega)
      have gj : wr.cell? ⟨bP, oP + j, none⟩ = some (.int .u32 (lz ps j)) := (hB.cell (p := ⟨bP, oP + j, none⟩) hltP).trans (gP j (by omega))
      have hpj : lz ps j < 1000000000 := by
        refine (unhide HPC (lz ps j) ?_).2
        have hj : j < ps.length := by have := unhide HPL; omega
        have e : lz ps j = ps[j]'hj := by simp [lz, List.getD, hj]
        rw [e]; exact List.getElem_mem _
      obtain ⟨v, hv⟩ := Int.eq_ofNat_of_zero_le hbj.1
      have hstep := hide (hi_step (unhide HPC) (j := j) (u := v) (by have := unhide HPL; omega) hv)
      rw [hv] at gj hpj
      have htr := htabB.below hB
      have hvlen := dec_length_le 9 v (by omega) (by decide)
      have htext := hide (text_step (hi ps (j + 1)) v hpos (by omega))
      clear hv hbj hlast
      go_wp2_with fail
      refine (digits_any v (by omega) wr htr).mono ?_
      rintro e w1 ⟨rfl, hb1⟩
      have hbu1 := builder_below hbu hb1
      have hB1 : Below wB.heap.size wB w1 := hB.trans (hb1.mono (by omega))
      have hsz1 : wB.heap.size + 1 ≤ w1.heap.size := by have := hb1.size; omega
      clear hbu hb1 gj htr
      generalize hD : Lib.decDigits v = D at *
      have HD := hide hD
      clear hD
      go_wp2_with fail
      rw [show ((9 : Int) - (D.length : Int)) = ((9 - D.length : Nat) : Int) from by omega]
      refine (repeat_lay ⟨#[48]⟩ (9 - D.length) w1 (by omega) (by rw [show (⟨#[48]⟩ : ByteArray).size = 1 from rfl]; omega)).mono ?_
      rintro e w2 ⟨rfl, hb2⟩
      rw [show (⟨#[48]⟩ : ByteArray).data.toList = [48] from rfl]
      have hbu2 := builder_below hbu1 hb2
      have hB2 : Below wB.heap.size wB w2 := hB1.trans (hb2.mono (by omega))
      have hsz2 : wB.heap.size + 1 ≤ w2.heap.size := by have := hb2.size; omega
      have hrl : (Lib.repeatL [48] (9 - D.length)).length = 9 - D.length := by rw [Lib.repeatL_length]; simp
      have HRL := hide hrl
      generalize hR : Lib.repeatL [48] (9 - D.length) = R at *
      clear hbu1 hb2 hB1 hsz1 hR hrl
      go_wp2_with fail
      refine (write_lay wB.heap.size wB.heap.size _ _ w2 hbu2 (by rw [Lib.byteCells_length, size_list, unhide HRL]; omega) (by omega)).mono ?_
      rintro e w3 ⟨rfl, hbu3, hb3⟩
      rw [strCells_list, byteCells_append] at hbu3
      have hB3 : Below wB.heap.size wB w3 := hB2.trans hb3
      have hsz3 : wB.heap.size + 1 ≤ w3.heap.size := by have := hb3.size; omega
      clear hbu2 hb3 hB2 hsz2
      go_wp2_with fail
      refine (write_lay wB.heap.size wB.heap.size _ _ w3 (.inr hbu3) (by rw [Lib.byteCells_length, size_list, List.length_append, unhide HRL]; omega) (by omega)).mono ?_
      rintro e w4 ⟨rfl, hbu4, hb4⟩
      rw [strCells_list, byteCells_append, List.append_assoc, unhide htext, ← unhide hstep] at hbu4
      have hB4 : Below wB.heap.size wB w4 := hB3.trans hb4
      have hsz4 : wB.heap.size + 1 ≤ w4.heap.size := by have := hb4.size; omega
      have hlen4 : (Lib.decDigits (hi ps j)).length ≤ 9 * (m + 1 - j) := by
        rw [unhide hstep, ← unhide htext, List.length_append, List.length_append, unhide HRL]
        omega
      have HF := hide (And.intro hbu4 (And.intro hB4 (And.intro hsz4 hlen4)))
      clear hbu3 hb4 hB3 hsz3 hbu4 hB4 hsz4 hlen4
      go_wp2_with fail
      go_roundw
      case rel => exact ⟨j, by omega, by go_num, .inr (unhide HF).1, (unhide HF).2.1, (unhide HF).2.2.1, (unhide HF).2.2.2⟩
      case measure => simp [intOf]
end Go.Proofs.YtgkacepahfjeeaaGreatDoor
