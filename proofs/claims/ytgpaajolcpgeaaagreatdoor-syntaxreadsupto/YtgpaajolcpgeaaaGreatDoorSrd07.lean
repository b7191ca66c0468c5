/-
 Several texts in one: T2, T3, T4, T5, K1, Kp, X1, X2, X3, X4, X5, X6, X7, P0, PM, K2, D4, D5, D6, N1.
-/
import Derived.Test.YtgpaajolcpgeaaaGreatDoorSrd06
import Derived.Test.YtgpaajolcpgeaaaGreatDoorSrd02
import Derived.Deep.LoopGhost
import Derived.Test.YtgpaajolcpgeaaaGreatDoorSrd01
namespace Go.Proofs.YtgpaajolcpgeaaaGreatDoor
open Go.RowKit

/-- divideByLimb on an answer of the call's own -/
theorem divl_out {w0 w : World} {ad : Option Addr} {n cap : Nat} {X : List Int} {d : Int} (h : Out w0 w ad n cap X) (hbig : n ≤ 1099511627776) (hd0 : 0 < d) (hd1 : d < 4294967296) :
  Calls Tryz.prog 195 #[.slice ad n cap, .int .u32 d] w fun e w' => ∃ Y, e = .returned (.int .u32 (val X % d)) ∧ Out w0 w' ad n cap Y ∧ val Y = val X / d ∧ w'.heap.size = w.heap.size ∧ (∀ k, blk ad ≠ some k → w'.heap[k]? = w.heap[k]?) := by
 obtain ⟨hB, ⟨rfl, rfl, rfl, rfl⟩ | ⟨b, zs, rfl, hb, hr, hlz, hzl, hle, hm, rfl⟩⟩ := h
 ·refine (divl_nil d w).mono ?_
  rintro e w' ⟨rfl, rfl⟩
  refine ⟨[], ret_int ?_, ⟨hB, .inl ⟨rfl, rfl, rfl, rfl⟩⟩, ?_, rfl, fun _ _ => rfl⟩
  ·show 0 = (0 : Int) % d
   simp
  ·show 0 = (0 : Int) / d
   simp
 ·refine (divl_row (len := n) (cap := cap) hr hlz (by omega) hbig hd0 hd1).mono ?_
  rintro e w' ⟨zk, rfl, hrk, hlk, hzkl, hsame, hvk, honly⟩
  refine ⟨zk.take n, ret_int (by rw [val_take _ _ (by omega)]), ⟨hB.trans (honly.below hb), .inr ⟨b, zk, rfl, hb, hrk, hlk, by omega, hle, hm, rfl⟩⟩, by rw [val_take _ _ (by omega), val_take _ _ (by omega)]; exact hvk, honly.size, fun k hk => honly.block k (fun e => hk (by simp [blk, e]))⟩

/-- bare of an answer of the call's own -/
theorem bare_out {w0 w : World} {ad : Option Addr} {n cap : Nat} {X : List Int} (h : Out w0 w ad n cap X) :
  Calls Tryz.prog 121 #[.slice ad n cap] w fun e w' => e = .returned (.slice ad (tl X n) cap) ∧ w = w' := bare_any h.rd

theorem Out.trimmed {w0 w : World} {ad : Option Addr} {n cap : Nat} {X : List Int} (h : Out w0 w ad n cap X) : Out w0 w ad (tl X n) cap (trim X) ∧ Canon (trim X) := by
 have hrd := h.rd
 refine ⟨?_, canon_trim hrd.2.2.2.1⟩
 have hn := hrd.1
 obtain ⟨hB, ⟨rfl, rfl, rfl, rfl⟩ | ⟨b, zs, rfl, hb, hr, hlz, hzl, hle, hm, rfl⟩⟩ := h
 ·exact ⟨hB, .inl ⟨rfl, rfl, rfl, rfl⟩⟩
 ·have e : tl (zs.take n) n = tl zs n := tl_congr (fun i hi => by rw [lz_take, if_pos hi])
  have hb2 := tl_le zs n
  refine ⟨hB, .inr ⟨b, zs, rfl, hb, hr, hlz, hzl, by omega, hm, ?_⟩⟩
  unfold trim
  rw [hn, e, List.take_take, Nat.min_eq_left hb2]

/-- what stands between two rows that are apart -/
theorem out_one {w0 w : World} (hB : Below w0.heap.size w0 w) (x : Int) (h0 : 0 ≤ x) (h1 : x < 4294967296) : Out w0 (w.alloc (.cells #[.int .u32 x] 63)) (some ⟨w.heap.size, 0, none⟩) 1 1 [x] :=
 ⟨hB.alloc hB.size _, .inr ⟨w.heap.size, [x], rfl, hB.size, row_alloc w [x], fun z hz => by rw [List.mem_singleton.1 hz]; exact ⟨h0, h1⟩, rfl, Nat.le_refl _, by decide, rfl⟩⟩

theorem Out.alloc {w0 w : World} {ad : Option Addr} {n cap : Nat} {X : List Int} (h : Out w0 w ad n cap X) (o : Obj) : Out w0 (w.alloc o) ad n cap X :=
 h.keep (h.1.alloc h.1.size _) (fun _ hb => Below.heap_alloc _ _ _ (h.lt hb).2)

/-- append of one limb -/
theorem run_append_one {w0 w : World} {ad : Option Addr} {n cap : Nat} {xs : List Int} (hO : Out w0 w ad n cap xs) (ty : TypeId) (x : Int) (h0 : 0 ≤ x) (h1 : x < 4294967296) (hbig : n + 1 ≤ 35184372088832) :
  ∃ v' w', (Builtin.append_ #[23, 23] ty #[.slice ad n cap, .slice (some ⟨w.heap.size, 0, none⟩) 1 1]).run Tryz.prog (w.alloc (.cells #[.int .u32 x] 63)) = .ok v' w' ∧
   ∃ ad' cap', v' = .slice ad' (n + 1) cap' ∧ Out w0 w' ad' (n + 1) cap' (xs ++ [x]) ∧ (∀ k, k < w.heap.size → blk ad ≠ some k → w'.heap[k]? = w.heap[k]?) ∧ w.heap.size ≤ w'.heap.size ∧ (∀ k, blk ad' = some k → blk ad = some k ∨ w.heap.size ≤ k) := by
 obtain ⟨v', w', hr, ad', cap', hv, ho, hg, hbk⟩ := run_append_out (hO.alloc (.cells #[.int .u32 x] 63)) ty ⟨w.heap.size, 0, none⟩ 1 1 [x] rfl (fun z hz => by rw [List.mem_singleton.1 hz]; exact ⟨h0, h1⟩) (fun j hj => by
  obtain rfl : j = 0 := by omega
  rw [Addr.add_lit]
  exact (row_alloc w [x]).cell (i := 0) (by simp)) hbig
 refine ⟨v', w', hr, ad', cap', hv, ho, fun k hk hne => ?_, ?_, fun k hk => ?_⟩
 ·rw [hg.block k (by simp; omega) (fun e => hne e.symm)]
  exact Below.heap_alloc _ _ _ hk
 ·have := hg.size; simp at this; omega
 ·rcases hbk k hk with h | h
  ·exact .inl h
  ·exact .inr (by simp at h; omega)

/-- what holds of the rest and of the pieces at every round's head -/
def CutRel (w : World) (n0 : Int) (l1 : Nat) (gk : Nat) (l p : Value) (wr : World) : Prop :=
 ∃ adL nL capL X adP k capP ps, l = .slice adL nL capL ∧ p = .slice adP k capP ∧ Out w wr adL nL capL X ∧ Canon X ∧ Out w wr adP k capP ps ∧ (∀ b, blk adL = some b → blk adP ≠ some b) ∧ nL ≤ l1 ∧ 0 < k ∧ k ≤ 2 * l1 + 1 ∧ Pcs ps ∧ pv ps + val X * pb k = n0 ∧ (val X = 0 → 1 < k → lz ps (k - 1) ≠ 0) ∧ gk = (val X).toNat

theorem cut_bound {X ps : List Int} {k l1 : Nat} {n0 : Int} (_hc : Canon X) (hp : Pcs ps) (hv : pv ps + val X * pb k = n0) (hlt : n0 < pw l1) (hpos : 0 < val X) : k ≤ 2 * l1 := by
 have h1 := pv_nonneg hp
 have h2 : 1 * pb k ≤ val X * pb k := Int.mul_le_mul_of_nonneg_right (by omega) (Int.le_of_lt (pb_pos k))
 have h3 := pb_pw l1
 rcases Nat.lt_or_ge (2 * l1) k with h | h
 ·have := pb_mono (Nat.le_of_lt h); omega
 ·exact h

theorem cut_value {X ps : List Int} {k : Nat} {n0 : Int} (hk : ps.length = k) (hv : pv ps + val X * pb k = n0) : pv (ps ++ [val X % 1000000000]) + val X / 1000000000 * pb (k + 1) = n0 := by
 rw [pv_snoc, hk, ← hv]
 have e : val X % 1000000000 + 1000000000 * (val X / 1000000000) = val X := Int.emod_add_mul_ediv _ _
 have e2 : val X / 1000000000 * pb (k + 1) = 1000000000 * (val X / 1000000000) * pb k := by
  show val X / 1000000000 * (1000000000 * pb k) = _
  rw [← Int.mul_assoc, Int.mul_comm (val X / 1000000000)]
 rw [e2, Int.add_assoc, ← Int.add_mul, e]

theorem lz_snoc (ps : List Int) (x : Int) : lz (ps ++ [x]) ps.length = x := by simp [lz]

set_option maxRecDepth 100000 in
set_option maxHeartbeats 1600000 in
theorem cut_any {a1 : Option Addr} {l1 c1 : Nat} {xs : List Int} {w : World} (h1 : Rd w a1 l1 c1 xs) (hl : l1 ≤ 1099511627776) :
  Calls Tryz.prog 184 #[.slice a1 l1 c1] w fun e w' => ∃ ad n cap ps, e = .returned (.slice ad n cap) ∧ Out w w' ad n cap ps ∧ 0 < n ∧ n ≤ 2 * l1 + 1 ∧ Pcs ps ∧ pv ps = val xs ∧ (1 < n → lz ps (n - 1) ≠ 0) := by
 have hb1 := tl_le xs l1
 have hnn := val_nonneg h1.2.2.2.1
 have hlt := (vl_bd h1.2.2.2.1 l1).2
 have hvl : vl xs l1 = val xs := by unfold val; rw [h1.1]
 rw [hvl] at hlt
 have HLT := hide hlt
 have HNN := hide hnn
 have HC := hide (canon_trim h1.2.2.2.1)
 have HV := hide (val_trim xs)
 clear hlt hvl hnn
 go_enter Tryz.func184, Tryz.ntmps184
 go_wp2_with fail
 refine (fresh_any h1 hl).mono ?_
 rintro e w1 ⟨adL, capL, rfl, hoL⟩
 go_wp2_with fail
 refine (divl_out hoL (by omega) (by decide) (by decide)).mono ?_
 rintro e w2 ⟨X, rfl, hoX, hvX, hsz, hfr⟩
 have HX := hide hvX
 have hm0 : 0 ≤ val (trim xs) % 1000000000 ∧ val (trim xs) % 1000000000 < 1000000000 := by omega
 generalize hr0 : val (trim xs) % 1000000000 = r0 at *
 have HR0 := hide hr0
 clear hvX hfr hr0 hsz
 go_wp2_with fail
 have hoP := out_one hoX.1 r0 hm0.1 (by omega)
 have hoX2 := hoX.alloc (.cells #[.int .u32 r0] 63)
 refine (bare_out hoX2).mono ?_
 rintro e w3 ⟨rfl, rfl⟩
 have hne : ∀ b, blk adL = some b → b ≠ w2.heap.size := fun b hb => by have := (hoX.lt hb).2; omega
 have hot := hoX2.trimmed
 have htl := tl_le X (tl xs l1)
 generalize hn : tl X (tl xs l1) = nL at *
 have hvt : Hid (val (trim X) = val xs / 1000000000) := by
  show _ = _
  rw [val_trim, unhide HX, unhide HV]
 clear hoX hoX2 hoL hn
 have hstart : Hid (CutRel w (val xs) l1 (val (trim X)).toNat (.slice adL nL capL) (.slice (some ⟨w2.heap.size, 0, none⟩) 1 1) (w2.alloc (.cells #[.int .u32 r0] 63))) := by
  refine ⟨adL, nL, capL, trim X, some ⟨w2.heap.size, 0, none⟩, 1, 1, [r0], rfl, rfl, hot.1, hot.2, hoP, fun b hb e => hne b hb (by cases e; rfl), by omega, by decide, by omega, fun p hp => by rw [List.mem_singleton.1 hp]; exact hm0, ?_, fun _ h => absurd h (by decide), rfl⟩
  have e1 := unhide hvt
  have e2 := unhide HR0
  have e3 := unhide HV
  simp only [pv, pb]
  omega
 clear hot hoP hvt hne
 go_wp2_with fail
 go_loopg [3, 4] (val (trim X)).toNat (fun gk l p wr => CutRel w (val xs) l1 gk l p wr)
 case atStart => exact unhide hstart
 case round =>
  obtain ⟨adL2, nL2, capL2, X2, adP, k, capP, ps, rfl, rfl, hoL2, hcL, hoP, hdj, hnl, hk0, hkb, hpc, hpv, hlast, rfl⟩ := hrel
  have HPV := hide hpv
  have HLAST := hide hlast
  clear hpv hlast hstart
  by_cases hn0 : nL2 = 0
  ·subst hn0
   have hX2 : X2 = [] := List.eq_nil_of_length_eq_zero hoL2.rd.1
   subst hX2
   have hfin : Hid (pv ps = val xs) := by
    have := unhide HPV
    have e : val [] = 0 := rfl
    rw [e] at this
    show _ = _
    omega
   clear HPV
   go_wp2_with fail
   go_ret
   exact ⟨_, _, _, _, rfl, hoP, hk0, hkb, hpc, unhide hfin, (unhide HLAST) rfl⟩
  ·have hpos : 0 < val X2 := by
    have := canon_low hcL (by rw [hoL2.rd.1]; omega)
    have := pw_pos (X2.length - 1)
    omega
   have hkb2 := cut_bound hcL hpc (unhide HPV) (unhide HLT) hpos
   have hps : ps.length = k := hoP.rd.1
   have HPS := hide hps
   have hnew := hide (cut_value hps (unhide HPV))
   have hm1 : 0 ≤ val X2 % 1000000000 ∧ val X2 % 1000000000 < 1000000000 := by omega
   have hg : (0 : Int) < (nL2 : Int) := by omega
   clear HPV hps
   go_wp2_with fail
   refine (divl_out hoL2 (by omega) (by decide) (by decide)).mono ?_
   rintro e w3 ⟨Y, rfl, hoY, hvY, hsz, hfr⟩
   have hoP3 : Out w w3 adP k capP ps := hoP.keep hoY.1 (fun b hb => hfr b (fun e => hdj b e hb))
   have HVY := hide hvY
   clear hvY hfr hsz
   generalize hr1 : val X2 % 1000000000 = r1 at *
   have HR1 := hide hr1
   clear hr1
   go_wp2_with (at_builtin; refine wpList_append_run rfl _ _ 23 rfl _ _ rfl rfl _ (run_append_one hoP3 _ r1 hm1.1 (by omega) (by omega)) ?_; rintro v' w4 ⟨adP', capP', rfl, hoP4, hfr4, hsz4, hbk4⟩)
   have hoY4 : Out w w4 adL2 nL2 capL2 Y := hoY.keep hoP4.1 (fun b hb => hfr4 b (hoY.lt hb).2 (fun e => hdj b hb e))
   refine (bare_out hoY4).mono ?_
   rintro e w5 ⟨rfl, rfl⟩
   have htl2 := tl_le Y nL2
   have hdj4 : ∀ b, blk adL2 = some b → blk adP' ≠ some b := fun b hb e => by
    rcases hbk4 b e with h | h
    ·exact hdj b hb h
    ·have := (hoY.lt hb).2; omega
   have hrel' : Hid (CutRel w (val xs) l1 (val X2 / 1000000000).toNat (.slice adL2 (tl Y nL2) capL2) (.slice adP' (k + 1) capP') w4) := by
    have e1 : val (trim Y) = val X2 / 1000000000 := by rw [val_trim]; exact unhide HVY
    refine ⟨adL2, _, capL2, trim Y, adP', k + 1, capP', ps ++ [r1], rfl, rfl, hoY4.trimmed.1, hoY4.trimmed.2, hoP4, hdj4, by omega, by omega, by omega, hpc.snoc hm1.1 hm1.2, by rw [e1]; exact unhide hnew, fun h _ => ?_, by rw [e1]⟩
    rw [Nat.add_sub_cancel]
    have e2 := lz_snoc ps r1
    rw [unhide HPS] at e2
    rw [e2]
    have := unhide HR1
    rw [e1] at h
    omega
   have hmeas : Hid ((val X2 / 1000000000).toNat < (val X2).toNat) := by
    show _ < _
    omega
   clear hfr4 hbk4 hdj hdj4 hoY hoY4 hoP3 hoP4 hoP hoL2 hnew
   go_wp2_with fail
   go_roundg (val X2 / 1000000000).toNat
   case measure => exact unhide hmeas
   case rel => exact unhide hrel'
end Go.Proofs.YtgpaajolcpgeaaaGreatDoor

namespace Go.Proofs.YtgpaajolcpgeaaaGreatDoor
open Go.RowKit

theorem builder_below {T e : TypeId} {B b : Nat} {bs : List Value} {w w' : World} (h : Lib.IsBuilder T e B b bs w) (hb : Below w.heap.size w w') : Lib.IsBuilder T e B b bs w' := by
 have key : ∀ p, Lib.BuilderAt T e B b p bs w → Lib.BuilderAt T e B b p bs w' := by
  rintro p ⟨hB, v, hbk, hown, hne⟩
  have hlt : b < w.heap.size := by
   rcases Nat.lt_or_ge b w.heap.size with h' | h'
   ·exact h'
   ·rw [Array.getElem?_eq_none h'] at hbk; cases hbk
  exact ⟨hB, v, by rw [hb.block b hlt]; exact hbk, hown.kept (row := none) ⟨hb.os, hb.tape, hb.output, hb.size, fun k hk _ => hb.block k hk⟩ (by
   cases hq : v.ownBlock with
   | none => exact .inl rfl
   | some k => exact .inr (by simp)), hne⟩
 rcases h with h | h
 ·exact .inl (key _ h)
 ·exact .inr (key _ h)

theorem builder_new (T e : TypeId) (w : World) : Lib.IsBuilder T e w.heap.size w.heap.size (Lib.byteCells []) (w.alloc (.cells #[.pointer none, .slice none 0 0] T)) :=
 .inl ⟨Nat.le_refl _, .slice none 0 0, heap_alloc_new w _, World.ownsRow_nil _ _ _ _, by simp [Value.ownBlock]⟩

theorem strCells_list (l : List UInt8) : Lib.strCells ⟨l.toArray⟩ = Lib.byteCells l := by
 simp [Lib.strCells, Lib.byteCells]

theorem byteCells_append (l r : List UInt8) : Lib.byteCells l ++ Lib.byteCells r = Lib.byteCells (l ++ r) := by
 simp [Lib.byteCells]

theorem size_list (l : List UInt8) : (⟨l.toArray⟩ : ByteArray).size = l.length := by
 show l.toArray.size = _
 simp

set_option maxRecDepth 100000 in
set_option maxHeartbeats 1600000 in
theorem text_any {a1 : Option Addr} {l1 c1 : Nat} {xs : List Int} {w : World} (h1 : Rd w a1 l1 c1 xs) (hl : l1 ≤ 1099511627776) (htab : Tab w) :
  Calls Tryz.prog 169 #[.slice a1 l1 c1] w fun e w' => e = .returned (.string ⟨(Lib.decDigits (val xs).toNat).toArray⟩) ∧ Below w.heap.size w w' := by
 go_enter Tryz.func169, Tryz.ntmps169
 go_wp2_with fail
 refine (cut_any h1 hl).mono ?_
 rintro e wB ⟨adP, n, cap, ps, rfl, hoP, hn0, hnb, hpc, hpv, hlast⟩
 have hrd := hoP.rd
 obtain ⟨bP, oP, rfl, gP⟩ := hrd.some hn0
 have hBel := hoP.1
 obtain ⟨m, rfl⟩ : ∃ m, n = m + 1 := ⟨n - 1, by omega⟩
 have hbuild := builder_new 71 5 wB
 have htabB := htab.below hBel
 have hltP : bP < wB.heap.size := (hoP.lt rfl).2
 have hp := hpc.limbs
 have HPV := hide hpv
 have HLAST := hide hlast
 have HPC := hide hpc
 have hA1 : Below wB.heap.size wB (wB.alloc (.cells #[.pointer none, .slice none 0 0] 71)) := (Below.refl _ _).alloc (Nat.le_refl _) _
 have gA : ∀ i, i < m + 1 → (wB.alloc (.cells #[.pointer none, .slice none 0 0] 71)).cell? ⟨bP, oP + i, none⟩ = some (.int .u32 (lz ps i)) := fun i hi => (hA1.cell (p := ⟨bP, oP + i, none⟩) hltP).trans (gP i hi)
 have gAm := gA m (by omega)
 clear hpv hlast hpc gA
 obtain ⟨u, hu⟩ := Int.eq_ofNat_of_zero_le (lz_bd hp m).1
 have hu2 := (lz_bd hp m).2
 rw [hu] at gAm
 have HU := hide hu
 clear hu
 have hpl : ps.length = m + 1 := hrd.1
 have HPL := hide hpl
 have hu3 : u < 1000000000 := by
  have := unhide HPC (lz ps m) (by
   have e : lz ps m = ps[m]'(by omega) := by simp [lz, List.getD, hpl]
   rw [e]; exact List.getElem_mem _)
  have := unhide HU
  omega
 have hulen := dec_length_le 9 u hu3 (by decide)
 have hA2 := htabB.below hA1
 clear hpl
 go_wp2_with fail
 refine (digits_any u (by omega) _ hA2).mono ?_
 rintro e w1 ⟨rfl, hb1⟩
 have hbu1 := builder_below hbuild hb1
 have hsz1 : wB.heap.size + 1 ≤ w1.heap.size := by have := hb1.size; simpa using this
 have hB1 : Below wB.heap.size wB w1 := hA1.trans (hb1.mono (by simp))
 clear hbuild hb1 hA2
 go_wp2_with fail
 refine (write_lay wB.heap.size wB.heap.size _ _ w1 hbu1 (by rw [Lib.byteCells_length, size_list]; simp; omega) (by omega)).mono ?_
 rintro e w2 ⟨rfl, hbu2, hb2⟩
 rw [strCells_list, byteCells_append, List.nil_append] at hbu2
 have hB2 : Below wB.heap.size wB w2 := hB1.trans hb2
 have hsz2 : wB.heap.size + 1 ≤ w2.heap.size := by have := hb2.size; omega
 have hhi := hide (hi_last (unhide HPL) (unhide HU))
 clear hbu1 hb2 hB1 hsz1 gAm
 go_wp2_with fail
 go_loopw [6] (fun i wr => ∃ k : Nat, k ≤ m ∧ i = .int .i64 ((k : Int) - 1) ∧ Lib.IsBuilder 71 5 wB.heap.size wB.heap.size (Lib.byteCells (Lib.decDigits (hi ps k))) wr ∧ Below wB.heap.size wB wr ∧ wB.heap.size + 1 ≤ wr.heap.size ∧ (Lib.decDigits (hi ps k)).length ≤ 9 * (m + 1 - k)) (fun i _ => (intOf i + 1).toNat)
 case atStart => exact ⟨m, Nat.le_refl _, rfl, .inr (by rw [unhide hhi]; exact hbu2), hB2, hsz2, by rw [unhide hhi]; omega⟩
 case round =>
  obtain ⟨k, hk, rfl, hbu, hB, hsz, hlen⟩ := hrel
  clear hbu2 hB2 hsz2
  cases k with
  | zero =>
   go_wp2_with fail
   refine (string_lay _ _ _ wr hbu (by omega)).mono ?_
   rintro e w3 ⟨rfl, hb3⟩
   have hfin : Hid (hi ps 0 = (val xs).toNat) := by
    show _ = _
    unfold hi
    rw [List.drop_zero, unhide HPV]
   have hBf := hide (hBel.trans ((hB.trans hb3).mono hBel.size))
   go_wp2_with fail
   go_ret
   rw [unhide hfin]
   exact ⟨rfl, unhide hBf⟩
  | succ j =>
   have hbj := lz_bd hp j
   have hlast : lz ps m ≠ 0 := by have := (unhide HLAST) (by omega); simpa using this
   have hpos := hi_pos (unhide HPC) (unhide HPL) hlast (j + 1) (by omega)
   have gj : wr.cell? ⟨bP, oP + j, none⟩ = some (.int .u32 (lz ps j)) := (hB.cell (p := ⟨bP, oP + j, none⟩) hltP).trans (gP j (by omega))
   have hpj : lz ps j < 1000000000 := by
    refine (unhide HPC (lz ps j) ?_).2
    have hj : j < ps.length := by have := unhide HPL; omega
    have e : lz ps j = ps[j]'hj := by simp [lz, List.getD, hj]
    rw [e]; exact List.getElem_mem _
   obtain ⟨v, hv⟩ := Int.eq_ofNat_of_zero_le hbj.1
   have hstep := hide (hi_step (unhide HPC) (j := j) (u := v) (by have := unhide HPL; omega) hv)
   rw [hv] at gj hpj
   have htr := htabB.below hB
   have hvlen := dec_length_le 9 v (by omega) (by decide)
   have htext := hide (text_step (hi ps (j + 1)) v hpos (by omega))
   clear hv hbj hlast
   go_wp2_with fail
   refine (digits_any v (by omega) wr htr).mono ?_
   rintro e w1 ⟨rfl, hb1⟩
   have hbu1 := builder_below hbu hb1
   have hB1 : Below wB.heap.size wB w1 := hB.trans (hb1.mono (by omega))
   have hsz1 : wB.heap.size + 1 ≤ w1.heap.size := by have := hb1.size; omega
   clear hbu hb1 gj htr
   generalize hD : Lib.decDigits v = D at *
   have HD := hide hD
   clear hD
   go_wp2_with fail
   rw [show ((9 : Int) - (D.length : Int)) = ((9 - D.length : Nat) : Int) from by omega]
   refine (repeat_lay ⟨#[48]⟩ (9 - D.length) w1 (by omega) (by rw [show (⟨#[48]⟩ : ByteArray).size = 1 from rfl]; omega)).mono ?_
   rintro e w2 ⟨rfl, hb2⟩
   rw [show (⟨#[48]⟩ : ByteArray).data.toList = [48] from rfl]
   have hbu2 := builder_below hbu1 hb2
   have hB2 : Below wB.heap.size wB w2 := hB1.trans (hb2.mono (by omega))
   have hsz2 : wB.heap.size + 1 ≤ w2.heap.size := by have := hb2.size; omega
   have hrl : (Lib.repeatL [48] (9 - D.length)).length = 9 - D.length := by rw [Lib.repeatL_length]; simp
   have HRL := hide hrl
   generalize hR : Lib.repeatL [48] (9 - D.length) = R at *
   clear hbu1 hb2 hB1 hsz1 hR hrl
   go_wp2_with fail
   refine (write_lay wB.heap.size wB.heap.size _ _ w2 hbu2 (by rw [Lib.byteCells_length, size_list, unhide HRL]; omega) (by omega)).mono ?_
   rintro e w3 ⟨rfl, hbu3, hb3⟩
   rw [strCells_list, byteCells_append] at hbu3
   have hB3 : Below wB.heap.size wB w3 := hB2.trans hb3
   have hsz3 : wB.heap.size + 1 ≤ w3.heap.size := by have := hb3.size; omega
   clear hbu2 hb3 hB2 hsz2
   go_wp2_with fail
   refine (write_lay wB.heap.size wB.heap.size _ _ w3 (.inr hbu3) (by rw [Lib.byteCells_length, size_list, List.length_append, unhide HRL]; omega) (by omega)).mono ?_
   rintro e w4 ⟨rfl, hbu4, hb4⟩
   rw [strCells_list, byteCells_append, List.append_assoc, unhide htext, ← unhide hstep] at hbu4
   have hB4 : Below wB.heap.size wB w4 := hB3.trans hb4
   have hsz4 : wB.heap.size + 1 ≤ w4.heap.size := by have := hb4.size; omega
   have hlen4 : (Lib.decDigits (hi ps j)).length ≤ 9 * (m + 1 - j) := by
    rw [unhide hstep, ← unhide htext, List.length_append, List.length_append, unhide HRL]
    omega
   have HF := hide (And.intro hbu4 (And.intro hB4 (And.intro hsz4 hlen4)))
   clear hbu3 hb4 hB3 hsz3 hbu4 hB4 hsz4 hlen4
   go_wp2_with fail
   go_roundw
   case rel => exact ⟨j, by omega, by go_num, .inr (unhide HF).1, (unhide HF).2.1, (unhide HF).2.2.1, (unhide HF).2.2.2⟩
   case measure => simp [intOf]
end Go.Proofs.YtgpaajolcpgeaaaGreatDoor

namespace Go.Proofs.YtgpaajolcpgeaaaGreatDoor
open Go.RowKit

/-- the byte at a place -/
def bt (s : ByteArray) (i : Nat) : Nat := (s.data.toList.getD i 0).toNat

theorem bt_eq (s : ByteArray) (i : Nat) (h : i < s.size) : bt s i = (s[i]'h).toNat := by
  unfold bt
  have : s.data.toList.getD i 0 = s[i]'h := by
    have h2 : i < s.data.size := h
    have e : s.data.toList[i]? = some (s.data[i]'h2) := by simp
    rw [List.getD_eq_getElem?_getD, e]
    rfl
  rw [this]

/-- has some number this text? -/
abbrev okText (s : ByteArray) : Prop := 0 < s.size ∧ ¬ (1 < s.size ∧ bt s 0 = 48) ∧ ∀ i, i < s.size → 48 ≤ bt s i ∧ bt s i ≤ 57

theorem ne_empty {s : ByteArray} (h : 0 < s.size) : s.toList.isEmpty = false := by
  rw [ByteArray.toList_eq]
  have : 0 < s.data.toList.length := by rw [Array.length_toList]; exact h
  cases hq : s.data.toList with
  | nil => rw [hq] at this; simp at this
  | cons x r => rfl

theorem is_empty {s : ByteArray} (h : s.size = 0) : s.toList.isEmpty = true := by
  rw [ByteArray.toList_eq]
  have : s.data.toList.length = 0 := by rw [Array.length_toList]; exact h
  rw [List.eq_nil_of_length_eq_zero this]; rfl

theorem bt_lt (s : ByteArray) (i : Nat) : bt s i < 256 := UInt8.toNat_lt _

set_option maxRecDepth 100000 in
set_option maxHeartbeats 1600000 in
theorem isText_yes (s : ByteArray) (w : World) (hs : s.size ≤ 9223372036854775807) (hok : okText s) :
    Calls Tryz.prog 179 #[.string s] w fun e w' => e = .returned (.bool true) ∧ w = w' := by
  obtain ⟨h0, h1, h2⟩ := hok
  have e0 := bt_eq s 0 h0
  have H2 := hide h2
  have hne := ne_empty h0
  by_cases h11 : 1 < s.size
  · have hb0 : (((s[0]'h0).toNat : Int) == 48) = false := by
      rw [beq_eq_false_iff_ne]
      intro h
      exact h1 ⟨h11, by omega⟩
    have hd1 : decide ((1 : Int) < (s.size : Int)) = true := by simp; omega
    clear h1 h2 e0
    go_enter Tryz.func179, Tryz.ntmps179
    go_wp2
    go_loop [18] (fun i => ∃ k : Nat, k ≤ s.size ∧ i = .int .i64 k) (fun i => s.size - (intOf i).toNat)
    case atStart => exact ⟨0, Nat.zero_le _, rfl⟩
    case round =>
      obtain ⟨k, hk, rfl⟩ := hrel
      by_cases hkl : k < s.size
      · have hb := (unhide H2) k hkl
        rw [bt_eq s k hkl] at hb
        have hk1 : decide (((s[k]'hkl).toNat : Int) < 48) = false := by simp; omega
        have hk2 : decide ((57 : Int) < ((s[k]'hkl).toNat : Int)) = false := by simp; omega
        clear hb
        go_wp2
        exact ⟨⟨k + 1, by omega, by go_num⟩, by simp [intOf]; omega⟩
      · go_wp2
        go_ret
        exact ⟨rfl, rfl⟩
  · have hd1 : decide ((1 : Int) < (s.size : Int)) = false := by simp; omega
    clear h1 h2 e0
    go_enter Tryz.func179, Tryz.ntmps179
    go_wp2
    go_loop [18] (fun i => ∃ k : Nat, k ≤ s.size ∧ i = .int .i64 k) (fun i => s.size - (intOf i).toNat)
    case atStart => exact ⟨0, Nat.zero_le _, rfl⟩
    case round =>
      obtain ⟨k, hk, rfl⟩ := hrel
      by_cases hkl : k < s.size
      · have hb := (unhide H2) k hkl
        rw [bt_eq s k hkl] at hb
        have hk1 : decide (((s[k]'hkl).toNat : Int) < 48) = false := by simp; omega
        have hk2 : decide ((57 : Int) < ((s[k]'hkl).toNat : Int)) = false := by simp; omega
        clear hb
        go_wp2
        exact ⟨⟨k + 1, by omega, by go_num⟩, by simp [intOf]; omega⟩
      · go_wp2
        go_ret
        exact ⟨rfl, rfl⟩

set_option maxRecDepth 100000 in
set_option maxHeartbeats 1600000 in
theorem isText_no (s : ByteArray) (w : World) (hs : s.size ≤ 9223372036854775807) (hok : ¬ okText s) :
    Calls Tryz.prog 179 #[.string s] w fun e w' => e = .returned (.bool false) ∧ w = w' := by
  by_cases h0 : s.size = 0
  · have hne := is_empty h0
    clear hok
    go_enter Tryz.func179, Tryz.ntmps179
    go_wp2
    go_ret
    exact ⟨rfl, rfl⟩
  · have hpos : 0 < s.size := by omega
    have hne := ne_empty hpos
    have e0 := bt_eq s 0 hpos
    have HP := hide h0
    clear h0
    by_cases h1 : 1 < s.size ∧ bt s 0 = 48
    · have h11 := h1.1
      have hb0 : (((s[0]'hpos).toNat : Int) == 48) = true := by
        rw [beq_iff_eq]
        have := h1.2
        omega
      have hd1 : decide ((1 : Int) < (s.size : Int)) = true := by simp; omega
      clear hok h1 e0
      go_enter Tryz.func179, Tryz.ntmps179
      go_wp2
      go_ret
      exact ⟨rfl, rfl⟩
    · have hbad : Hid (¬ ∀ i, i < s.size → 48 ≤ bt s i ∧ bt s i ≤ 57) := fun h => hok ⟨hpos, h1, h⟩
      by_cases h11 : 1 < s.size
      all_goals
        first
        | (have hb0 : (((s[0]'hpos).toNat : Int) == 48) = false := by (rw [beq_eq_false_iff_ne]; intro h; exact h1 ⟨h11, by omega⟩)
           have hd1 : decide ((1 : Int) < (s.size : Int)) = true := by (simp; omega))
        | have hd1 : decide ((1 : Int) < (s.size : Int)) = false := by (simp; omega)
        clear hok h1 e0
        go_enter Tryz.func179, Tryz.ntmps179
        go_wp2
        go_loop [18] (fun i => ∃ k : Nat, k ≤ s.size ∧ i = .int .i64 k ∧ ∀ j, j < k → 48 ≤ bt s j ∧ bt s j ≤ 57) (fun i => s.size - (intOf i).toNat)
        case atStart => exact ⟨0, Nat.zero_le _, rfl, fun j hj => absurd hj (by omega)⟩
        case round =>
          obtain ⟨k, hk, rfl, hg⟩ := hrel
          have HG := hide hg
          clear hg
          by_cases hkl : k < s.size
          · have ek := bt_eq s k hkl
            by_cases hc1 : bt s k < 48
            · have hk1 : decide (((s[k]'hkl).toNat : Int) < 48) = true := by simp; omega
              clear ek hc1
              go_wp2
              go_ret
              exact ⟨rfl, rfl⟩
            · by_cases hc2 : 57 < bt s k
              · have hk1 : decide (((s[k]'hkl).toNat : Int) < 48) = false := by simp; omega
                have hk2 : decide ((57 : Int) < ((s[k]'hkl).toNat : Int)) = true := by simp; omega
                clear ek hc1 hc2
                go_wp2
                go_ret
                exact ⟨rfl, rfl⟩
              · have hk1 : decide (((s[k]'hkl).toNat : Int) < 48) = false := by simp; omega
                have hk2 : decide ((57 : Int) < ((s[k]'hkl).toNat : Int)) = false := by simp; omega
                have HN := hide (show 48 ≤ bt s k ∧ bt s k ≤ 57 from by omega)
                clear ek hc1 hc2
                go_wp2
                exact ⟨⟨k + 1, by omega, by go_num, fun j hj => (by by_cases e : j = k; { rw [e]; exact unhide HN }; { exact (unhide HG) j (by omega) })⟩, by simp [intOf]; omega⟩
          · exact absurd (fun i hi => (unhide HG) i (by omega)) (unhide hbad)
end Go.Proofs.YtgpaajolcpgeaaaGreatDoor

namespace Go.Proofs.YtgpaajolcpgeaaaGreatDoor
open Go.RowKit

/-- the number of k digits from place a on -/
def dr (s : ByteArray) (a : Nat) : Nat → Nat
 | 0 => 0
 | k + 1 => dr s a k * 10 + (bt s (a + k) - 48)

theorem dr_lt (s : ByteArray) (a : Nat) (k : Nat) (h : ∀ i, i < k → bt s (a + i) ≤ 57) : dr s a k < 10 ^ k := by
 induction k with
 | zero => simp [dr]
 | succ k ih =>
  have h1 := ih (fun i hi => h i (by omega))
  have h2 := h k (by omega)
  simp only [dr, Nat.pow_succ]
  omega

theorem dr_add (s : ByteArray) (a m k : Nat) : dr s a (m + k) = dr s a m * 10 ^ k + dr s (a + m) k := by
 induction k with
 | zero => simp [dr]
 | succ k ih =>
  rw [← Nat.add_assoc]
  simp only [dr, ih, Nat.pow_succ]
  rw [Nat.add_mul, Nat.mul_assoc, Nat.add_assoc a m k]
  omega

theorem dr_congr {s t : ByteArray} {a b k : Nat} (h : ∀ i, i < k → bt s (a + i) = bt t (b + i)) : dr s a k = dr t b k := by
 induction k with
 | zero => rfl
 | succ k ih => simp only [dr, ih (fun i hi => h i (by omega)), h k (by omega)]

theorem pow_le9 {k : Nat} (h : k ≤ 8) : 10 ^ k ≤ 100000000 := by
 have : 10 ^ k ≤ 10 ^ 8 := Nat.pow_le_pow_right (by decide) h
 simpa using this

set_option maxRecDepth 100000 in
set_option maxHeartbeats 1600000 in
theorem value_any (s : ByteArray) (w : World) (hs : s.size ≤ 9) (hd : ∀ i, i < s.size → 48 ≤ bt s i ∧ bt s i ≤ 57) :
  Calls Tryz.prog 181 #[.string s] w fun e w' => e = .returned (.int .u32 (dr s 0 s.size)) ∧ w = w' := by
 have HD := hide hd
 clear hd
 go_enter Tryz.func181, Tryz.ntmps181
 go_wp2
 go_loop [3, 7] (fun n i => ∃ k : Nat, k ≤ s.size ∧ i = .int .i64 k ∧ n = .int .u32 (dr s 0 k)) (fun _ i => s.size - (intOf i).toNat)
 case atStart => exact ⟨0, Nat.zero_le _, rfl, rfl⟩
 case round =>
  obtain ⟨k, hk, rfl, rfl⟩ := hrel
  by_cases hkl : k < s.size
  ·have hb := (unhide HD) k hkl
   have hlt := dr_lt s 0 k (fun i hi => ((unhide HD) (0 + i) (by omega)).2)
   have h8 := pow_le9 (k := k) (by omega)
   have hnew := hide (show dr s 0 (k + 1) = dr s 0 k * 10 + (bt s k - 48) from by simp [dr])
   rw [bt_eq s k hkl] at hb hnew
   generalize dr s 0 k = d at *
   go_wp2
   exact ⟨⟨k + 1, by omega, by go_num, by rw [unhide hnew]; congr 1; omega⟩, by simp [intOf]; omega⟩
  ·obtain rfl : k = s.size := by omega
   go_wp2
   go_ret
   exact ⟨rfl, rfl⟩

set_option maxRecDepth 100000 in
set_option maxHeartbeats 1600000 in
theorem times_out {w0 w : World} {ad : Option Addr} {n cap : Nat} {X : List Int} {f p : Int} (h : Out w0 w ad n cap X) (hbig : n ≤ 1099511627776) (hf0 : 0 ≤ f) (hf1 : f < 4294967296) (hp0 : 0 ≤ p) (hp1 : p < 4294967296) :
  Calls Tryz.prog 180 #[.slice ad n cap, .int .u32 f, .int .u32 p] w fun e w' => ∃ Y cr, e = .returned (.int .u32 cr) ∧ 0 ≤ cr ∧ cr < 4294967296 ∧ Out w0 w' ad n cap Y ∧ val Y + cr * pw n = val X * f + p ∧ w'.heap.size = w.heap.size ∧ (∀ k, blk ad ≠ some k → w'.heap[k]? = w.heap[k]?) := by
 obtain ⟨hB, ⟨rfl, rfl, rfl, rfl⟩ | ⟨b, zs, rfl, hb, hr, hlz, hzl, hle, hm, rfl⟩⟩ := h
 ·go_enter Tryz.func180, Tryz.ntmps180
  go_wp2
  refine wp_loop_rounds 1 ?_
  rw [rounds_succ]
  go_wp2
  go_ret
  refine ⟨[], p, rfl, hp0, hp1, ⟨hB, .inl ⟨rfl, rfl, rfl, rfl⟩⟩, ?_, rfl, fun _ _ => rfl⟩
  simp [val, vl, pw]
 ·go_enter Tryz.func180, Tryz.ntmps180
  go_wp2
  go_loopw [7, 13] (fun c i wr => ∃ (k : Nat) (cr : Int) (zk : List Int), k ≤ n ∧ i = .int .i64 k ∧ c = .int .u64 cr ∧ 0 ≤ cr ∧ cr < 4294967296 ∧ zk.length = cap ∧ Limbs zk ∧ Row wr b zk ∧ Only b w wr ∧ (∀ t, k ≤ t → lz zk t = lz zs t) ∧ vl zk k + cr * pw k = vl zs k * f + p) (fun _ i _ => n - (intOf i).toNat)
  case atStart => exact ⟨0, p, zs, Nat.zero_le _, rfl, rfl, hp0, hp1, hzl, hlz, hr, Only.refl _ _, fun _ _ => rfl, by simp [vl, pw]⟩
  case round =>
   obtain ⟨k, cr, zk, hk, rfl, rfl, hc0, hc1, hkl, hkL, hrow, honly, hsame, hv⟩ := hrel
   have HV := hide hv
   have HS := hide hsame
   clear hv hsame
   by_cases hkn : k < n
   ·have q := hrow.rd hkL (off := 0) (len := n) (cap := cap) (by omega) hle hm
    have hcell := hrow.cell (i := k) (by omega)
    have hfr := hrow.frozen k
    go_wp2_with fail
    refine (limb_any q (k : Int) (by omega) (by omega)).mono ?_
    rintro e w' ⟨rfl, rfl⟩
    rw [Int.toNat_natCast, List.drop_zero, lz_take, if_pos hkn]
    have B1 := lz_bd hkL k
    have B4 := mul_bd B1.1 B1.2 hf0 hf1
    have HN : Hid (vl (zk.set k ((cr + lz zk k * f) % 4294967296)) (k + 1) + ((cr + lz zk k * f) / 4294967296) * pw (k + 1) = vl zs (k + 1) * f + p) := by
     show _ = _
     rw [carry_step (by omega) (unhide HV), vl_succ, (unhide HS) k (Nat.le_refl _), Int.add_mul, Int.mul_right_comm]
     omega
    clear HV q
    go_wp2_with fail
    rw [mask64 _ (by omega) (by omega), Int.emod_emod_of_dvd _ (Int.dvd_refl _)]
    exact ⟨⟨k + 1, _, _, by omega, by go_num, rfl, by omega, by omega, by rw [List.length_set]; exact hkl, hkL.set k (by omega) (by omega), hrow.set k _, honly.trans (Only.set b k wr _), fun t ht => by rw [lz_set _ _ _ _ (by omega), if_neg (by omega)]; exact (unhide HS) t (by omega), unhide HN⟩, by simp [intOf]; omega⟩
   ·obtain rfl : k = n := by omega
    go_wp2_with fail
    go_ret
    refine ⟨zk.take k, cr, rfl, hc0, hc1, ⟨hB.trans (honly.below hb), .inr ⟨b, zk, rfl, hb, hrow, hkL, hkl, hle, hm, rfl⟩⟩, ?_, honly.size, fun j hj => honly.block j (fun e => hj (by simp [blk, e]))⟩
    rw [val_take _ _ (by omega), val_take _ _ (by omega)]
    exact unhide HV

theorem bt_extract (s : ByteArray) (a b i : Nat) (hb : b ≤ s.size) (hi : a + i < b) : bt (s.extract a b) i = bt s (a + i) := by
 unfold bt
 have e : (s.extract a b).data = s.data.extract a b := by simp [ByteArray.data_extract]
 rw [e]
 have h2 : b ≤ s.data.size := hb
 have e2 : (s.data.extract a b).toList.getD i 0 = s.data.toList.getD (a + i) 0 := by
  simp only [List.getD_eq_getElem?_getD, Array.toList_extract, List.extract_eq_take_drop, List.getElem?_take, List.getElem?_drop]
  rw [if_pos (by omega)]
 rw [e2]

theorem val_snoc (Y : List Int) (cr : Int) : val (Y ++ [cr]) = val Y + cr * pw Y.length := by
 unfold val
 rw [List.length_append, List.length_singleton, vl_succ]
 have e1 : vl (Y ++ [cr]) Y.length = vl Y Y.length := vl_congr (fun i hi => by simp [lz, List.getD, List.getElem?_append_left hi])
 rw [e1, lz_snoc]

theorem dr_first (s : ByteArray) (m c : Nat) (h : m = 0 ∨ c = 9) : dr s 0 (m + c) = dr s 0 m * 1000000000 + dr s m c := by
 rw [dr_add, Nat.zero_add]
 rcases h with rfl | rfl
 ·simp [dr]
 ·rfl

theorem dr_pw (s : ByteArray) (k : Nat) (h : ∀ i, i < k → bt s (0 + i) ≤ 57) : (dr s 0 k : Int) < pw k := by
 have h1 := dr_lt s 0 k h
 have h2 : ((10 ^ k : Nat) : Int) ≤ pw k := by
  clear h h1
  induction k with
  | zero => decide
  | succ k ih => rw [Nat.pow_succ, pw_succ]; omega
 omega

theorem canon_len {zs : List Int} (h : Canon zs) {k : Nat} (hv : val zs < pw k) : zs.length ≤ k := by
 rcases Nat.lt_or_ge k zs.length with h1 | h1
 ·have h2 := canon_low h (by omega)
  have h3 : pw k ≤ pw (zs.length - 1) := pw_mono (by omega)
  omega
 ·exact h1

set_option maxRecDepth 100000 in
set_option maxHeartbeats 1600000 in
theorem parse_no (s : ByteArray) (w : World) (hs : s.size ≤ 9223372036854775807) (hok : ¬ okText s) :
  Calls Tryz.prog 163 #[.string s] w fun e w' => e = .returned (.tuple #[.slice none 0 0, .int .i64 12]) ∧ w = w' := by
 have HOK := hide hok
 clear hok
 go_enter Tryz.func163, Tryz.ntmps163
 go_wp2_with fail
 refine (isText_no s w hs (unhide HOK)).mono ?_
 rintro e w' ⟨rfl, rfl⟩
 go_wp2_with fail
 go_ret2
 exact ⟨rfl, rfl⟩

set_option maxRecDepth 100000 in
set_option maxHeartbeats 1600000 in
theorem parse_yes (s : ByteArray) (w : World) (hs : s.size ≤ 1099511627776) (hok : okText s) :
  Calls Tryz.prog 163 #[.string s] w fun e w' => ∃ ad len cap zs, e = .returned (.tuple #[.slice ad len cap, .int .i64 0]) ∧ Out w w' ad len cap zs ∧ Canon zs ∧ val zs = (dr s 0 s.size : Int) ∧ len ≤ s.size := by
 have HOK := hide hok
 clear hok
 go_enter Tryz.func163, Tryz.ntmps163
 go_wp2_with fail
 refine (isText_yes s w (by omega) (unhide HOK)).mono ?_
 rintro e w' ⟨rfl, rfl⟩
 go_wp2_with fail
 go_loopw [4, 5] (fun v i wr => ∃ (k : Nat) (ad : Option Addr) (n cap : Nat) (zs : List Int), k ≤ s.size ∧ i = .int .i64 k ∧ v = .slice ad n cap ∧ Out w wr ad n cap zs ∧ Canon zs ∧ val zs = (dr s 0 k : Int) ∧ n ≤ k ∧ (k = 0 ∨ (s.size - k) % 9 = 0)) (fun _ i _ => s.size - (intOf i).toNat)
 case atStart => exact ⟨0, none, 0, 0, [], Nat.zero_le _, rfl, rfl, out_none w, canon_nil, rfl, Nat.le_refl _, .inl rfl⟩
 case round =>
  obtain ⟨k, ad, n, cap, zs, hk, rfl, rfl, ho, hc, hv, hn, hmod⟩ := hrel
  have HV := hide hv
  have HM := hide hmod
  clear hv hmod
  by_cases hkl : k < s.size
  ·obtain ⟨c, hc9⟩ : ∃ c, c = (s.size - k - 1) % 9 + 1 := ⟨_, rfl⟩
   have hcb : 1 ≤ c ∧ c ≤ 9 ∧ k + c ≤ s.size := by omega
   have hto : Hid ((k : Int) + ((s.size : Int) - (k : Int) - 1) % 9 + 1 = ((k + c : Nat) : Int)) := by
    show _ = _
    omega
   have hfc := hide (show k = 0 ∨ c = 9 from by
    rcases unhide HM with h | h
    ·exact .inl h
    ·exact .inr (by omega))
   have hmod' := hide (show (s.size - (k + c)) % 9 = 0 from by omega)
   have hsl : ∀ u : World, (Instr.slice 9 (.string s) (some (.int .i64 (k : Int))) (some (.int .i64 ((k : Int) + ((s.size : Int) - (k : Int) - 1) % 9 + 1))) none).run Tryz.prog u = .ok (.string (s.extract k (k + c))) u := fun u => by
    have := run_slice_string (P := Tryz.prog) u 9 s .i64 .i64 (k : Int) ((k : Int) + ((s.size : Int) - (k : Int) - 1) % 9 + 1) Tryz.underlying9 (by omega) (by omega) (by omega)
    rw [this, unhide hto, Int.toNat_natCast, Int.toNat_natCast]
   have hsx : (s.extract k (k + c)).size = c := by rw [ByteArray.size_extract]; omega
   have hdg : ∀ i, i < (s.extract k (k + c)).size → 48 ≤ bt (s.extract k (k + c)) i ∧ bt (s.extract k (k + c)) i ≤ 57 := fun i hi => by
    rw [bt_extract s k (k + c) i (by omega) (by omega)]
    exact (unhide HOK).2.2 (k + i) (by omega)
   have hdx : Hid (dr (s.extract k (k + c)) 0 (s.extract k (k + c)).size = dr s k c) := by
    show _ = _
    rw [hsx]
    exact dr_congr (fun i hi => by rw [Nat.zero_add, bt_extract s k (k + c) i (by omega) (by omega)])
   have hdl : dr s k c < 10 ^ c := dr_lt s k c (fun i hi => ((unhide HOK).2.2 (k + i) (by omega)).2)
   have hdb : dr s k c < 1000000000 := by
    have : 10 ^ c ≤ 10 ^ 9 := Nat.pow_le_pow_right (by decide) (by omega)
    simp at this
    omega
   have hval := hide (dr_first s k c (unhide hfc))
   have hpwc := hide (dr_pw s (k + c) (fun i hi => ((unhide HOK).2.2 (0 + i) (by omega)).2))
   have hsx9 : (s.extract k (k + c)).size ≤ 9 := by omega
   have HDG := hide hdg
   clear hc9 hdl hsx hdg
   go_wp2_with fail
   refine (value_any _ wr hsx9 (unhide HDG)).mono ?_
   rintro e w' ⟨rfl, rfl⟩
   rw [unhide hdx]
   generalize hgv : dr s k c = g at *
   have HG := hide hgv
   clear hgv
   go_wp2_with fail
   refine (times_out (f := 1000000000) (p := (g : Int)) ho (by omega) (by decide) (by decide) (by omega) (by omega)).mono ?_
   rintro e w2 ⟨Y, cr, rfl, hcr0, hcr1, hoY, hvY, hsz2, hfr2⟩
   have HVY := hide hvY
   have hYl := hide hoY.rd.1
   clear hvY hsz2 hfr2 hsl
   go_wp2_with (at_builtin; refine wpList_append_run rfl _ _ 23 rfl _ _ rfl rfl _ (run_append_one hoY _ cr hcr0 hcr1 (by omega)) ?_; rintro v' w3 ⟨ad', cap', rfl, ho3, hfr3, hsz3, hbk3⟩)
   clear hfr3 hbk3 hsz3
   refine (bare_out ho3).mono ?_
   rintro e w4 ⟨rfl, rfl⟩
   obtain ⟨ho4, hc4⟩ := ho3.trimmed
   have hv4 : Hid (val (trim (Y ++ [cr])) = (dr s 0 (k + c) : Int)) := by
    show _ = _
    have e1 := unhide HVY
    have e2 := unhide HV
    have e3 := unhide hval
    rw [val_trim, val_snoc, unhide hYl, e1, e2]
    omega
   have hn4 : Hid (tl (Y ++ [cr]) (n + 1) ≤ k + c) := by
    show _ ≤ _
    rw [← ho4.rd.1]
    exact canon_len hc4 (by rw [unhide hv4]; exact unhide hpwc)
   have HO4 := hide ho4
   have HC4 := hide hc4
   clear ho3 ho4 hc4
   go_wp2_with fail
   go_roundw
   case rel => exact ⟨k + c, _, _, _, _, by omega, by rw [← unhide hto], rfl, unhide HO4, unhide HC4, unhide hv4, unhide hn4, .inr (unhide hmod')⟩
   case measure => simp [intOf]; omega
  ·obtain rfl : k = s.size := by omega
   go_wp2_with fail
   go_ret2
   exact ⟨_, _, _, _, rfl, ho, hc, unhide HV, hn⟩
end Go.Proofs.YtgpaajolcpgeaaaGreatDoor

namespace Go.Proofs.YtgpaajolcpgeaaaGreatDoor
open Go.RowKit

/-- the slice reads as some limbs of the number n -/
def Nm (w : World) (ad : Option Addr) (len cap : Nat) (n : Int) : Prop := ∃ zs, Rd w ad len cap zs ∧ val zs = n
/-- .. without noughts at the end -/
def Cn (w : World) (ad : Option Addr) (len cap : Nat) (n : Int) : Prop := ∃ zs, Rd w ad len cap zs ∧ Canon zs ∧ val zs = n

theorem Nm.below {w w' : World} {ad : Option Addr} {len cap : Nat} {n : Int} (h : Nm w ad len cap n) (hb : Below w.heap.size w w') : Nm w' ad len cap n := by
 obtain ⟨zs, h1, h3⟩ := h; exact ⟨zs, h1.below hb, h3⟩
theorem Cn.below {w w' : World} {ad : Option Addr} {len cap : Nat} {n : Int} (h : Cn w ad len cap n) (hb : Below w.heap.size w w') : Cn w' ad len cap n := by
 obtain ⟨zs, h1, h2, h3⟩ := h; exact ⟨zs, h1.below hb, h2, h3⟩
theorem Nm.nonneg {w : World} {ad : Option Addr} {len cap : Nat} {n : Int} (h : Nm w ad len cap n) : 0 ≤ n := by
 obtain ⟨zs, h1, rfl⟩ := h; exact val_nonneg h1.2.2.2.1
theorem out_cn {w w' : World} {ad : Option Addr} {len cap : Nat} {zs : List Int} {n : Int} (h : Out w w' ad len cap zs) (hc : Canon zs) (hv : val zs = n) : Cn w' ad len cap n := ⟨zs, h.rd, hc, hv⟩

theorem cmp_n {a1 a2 : Option Addr} {l1 c1 l2 c2 : Nat} {m n : Int} {w : World} (h1 : Nm w a1 l1 c1 m) (h2 : Nm w a2 l2 c2 n) :
  Calls Tryz.prog 126 #[.slice a1 l1 c1, .slice a2 l2 c2] w fun e w' => e = .returned (.int .i64 (cmpI m n)) ∧ Below w.heap.size w w' := by
 obtain ⟨xs, h1, rfl⟩ := h1
 obtain ⟨ys, h2, rfl⟩ := h2
 refine (cmp_any h1 h2).mono ?_
 rintro e w' ⟨rfl, q, rfl⟩
 exact ⟨rfl, below_drewN _ _ _⟩

theorem text_n {a1 : Option Addr} {l1 c1 : Nat} {n : Int} {w : World} (h1 : Nm w a1 l1 c1 n) (hl : l1 ≤ 1099511627776) (htab : Tab w) :
  Calls Tryz.prog 169 #[.slice a1 l1 c1] w fun e w' => e = .returned (.string ⟨(Lib.decDigits n.toNat).toArray⟩) ∧ Below w.heap.size w w' := by
 obtain ⟨xs, h1, rfl⟩ := h1
 exact text_any h1 hl htab

theorem below_alloc (w : World) (o : Obj) : Below w.heap.size w (w.alloc o) := (Below.refl _ _).alloc (Nat.le_refl _) _

end Go.Proofs.YtgpaajolcpgeaaaGreatDoor

namespace Go.Proofs.YtgpaajolcpgeaaaGreatDoor
open Go.RowKit

theorem below_alloc' {w0 w : World} (h : Below w0.heap.size w0 w) (o : Obj) : Below w0.heap.size w0 (w.alloc o) := h.alloc h.size o

theorem grow_drew {w0 w : World} (h : Below w0.heap.size w0 w) : Below w0.heap.size w0 w.drew := Below.drew h
theorem grow_drewN {w0 w : World} (h : Below w0.heap.size w0 w) (n : Nat) : Below w0.heap.size w0 (w.drewN n) := Below.trans h (below_drewN _ _ _)
theorem grow_step {w0 w1 w2 : World} (k : Below w1.heap.size w1 w2) (h : Below w0.heap.size w0 w1) : Below w0.heap.size w0 w2 := h.trans (k.mono h.size)
end Go.Proofs.YtgpaajolcpgeaaaGreatDoor

namespace Go.Proofs.YtgpaajolcpgeaaaGreatDoor
open Go.RowKit

/-- what a byte is: a blank, a digit, a letter, an underscore, another -/
def cls (b : Int) : Int := if b = 32 ∨ b = 9 ∨ b = 10 ∨ b = 13 then 0 else if 48 ≤ b ∧ b ≤ 57 then 1 else if (97 ≤ b ∧ b ≤ 122) ∨ (65 ≤ b ∧ b ≤ 90) then 2 else if b = 95 then 3 else 4

set_option maxRecDepth 100000 in
set_option maxHeartbeats 1600000 in
theorem lookAt_n (b : Int) (h0 : 0 ≤ b) (h1 : b < 256) (w : World) :
  Calls Tryz.prog 137 #[.int .u8 b] w fun e w' => e = .returned (.int .i64 (cls b)) ∧ w = w' := by
 by_cases hb : b = 32 ∨ b = 9 ∨ b = 10 ∨ b = 13
 ·rcases hb with rfl | rfl | rfl | rfl
  all_goals (
   go_enter Tryz.func137, Tryz.ntmps137
   go_wp2
   go_ret
   exact ⟨rfl, rfl⟩)
 ·have e1 : (b == 32) = false := by rw [beq_eq_false_iff_ne]; omega
  have e2 : (b == 9) = false := by rw [beq_eq_false_iff_ne]; omega
  have e3 : (b == 10) = false := by rw [beq_eq_false_iff_ne]; omega
  have e4 : (b == 13) = false := by rw [beq_eq_false_iff_ne]; omega
  by_cases hd : 48 ≤ b ∧ b ≤ 57
  ·obtain ⟨d1, d2⟩ := hd
   have HC : Hid (cls b = 1) := by show _ = _; unfold cls; rw [if_neg hb, if_pos ⟨d1, d2⟩]
   clear hb
   go_enter Tryz.func137, Tryz.ntmps137
   go_wp2
   go_ret
   exact ⟨ret_int HC.out.symm, rfl⟩
  ·by_cases hl : 97 ≤ b ∧ b ≤ 122
   ·obtain ⟨d1, d2⟩ := hl
    have HC : Hid (cls b = 2) := by show _ = _; unfold cls; rw [if_neg hb, if_neg hd, if_pos (.inl ⟨d1, d2⟩)]
    have d3 : ¬ b ≤ 57 := by omega
    have d4 : 48 ≤ b := by omega
    clear hb hd
    go_enter Tryz.func137, Tryz.ntmps137
    go_wp2
    go_ret
    exact ⟨ret_int HC.out.symm, rfl⟩
   ·by_cases hu : 65 ≤ b ∧ b ≤ 90
    ·obtain ⟨d1, d2⟩ := hu
     have HC : Hid (cls b = 2) := by show _ = _; unfold cls; rw [if_neg hb, if_neg hd, if_pos (.inr ⟨d1, d2⟩)]
     have d3 : ¬ b ≤ 57 := by omega
     have d4 : 48 ≤ b := by omega
     have d5 : ¬ 97 ≤ b := by omega
     clear hb hd hl
     go_enter Tryz.func137, Tryz.ntmps137
     go_wp2
     go_ret
     exact ⟨ret_int HC.out.symm, rfl⟩
    ·by_cases h9 : b = 95
     ·subst h9
      go_enter Tryz.func137, Tryz.ntmps137
      go_wp2
      go_ret
      exact ⟨rfl, rfl⟩
     ·have HC : Hid (cls b = 4) := by show _ = _; unfold cls; rw [if_neg hb, if_neg hd, if_neg (by omega), if_neg h9]
      have e5 : (b == 95) = false := by rw [beq_eq_false_iff_ne]; exact h9
      rcases (show b < 48 ∨ (57 < b ∧ b < 65) ∨ (90 < b ∧ b < 97) ∨ 122 < b from by omega) with q | ⟨q, q'⟩ | ⟨q, q'⟩ | q
      all_goals (
       clear hb hd hl hu
       go_enter Tryz.func137, Tryz.ntmps137
       go_wp2
       go_ret
       exact ⟨ret_int HC.out.symm, rfl⟩)

/-- may a byte stand in a row? -/
def inRow (b : Int) : Bool := decide (cls b = 1 ∨ cls b = 2 ∨ cls b = 3)
theorem cls_bd (b : Int) : 0 ≤ cls b ∧ cls b ≤ 4 := by unfold cls; split <;> (try split) <;> (try split) <;> (try split) <;> decide

set_option maxRecDepth 100000 in
set_option maxHeartbeats 1600000 in
theorem isRow_n (b : Int) (h0 : 0 ≤ b) (h1 : b < 256) (w : World) :
  Calls Tryz.prog 164 #[.int .u8 b] w fun e w' => e = .returned (.bool (inRow b)) ∧ w = w' := by
 have hc := cls_bd b
 go_enter Tryz.func164, Tryz.ntmps164
 go_wp2_with fail
 refine (lookAt_n b h0 h1 w).mono ?_
 rintro e w' ⟨rfl, rfl⟩
 have HR : Hid (inRow b = decide (cls b = 1 ∨ cls b = 2 ∨ cls b = 3)) := rfl
 generalize cls b = c at *
 rcases (show c = 0 ∨ c = 1 ∨ c = 2 ∨ c = 3 ∨ c = 4 from by omega) with rfl | rfl | rfl | rfl | rfl
 all_goals (
  go_wp2
  go_ret
  exact ⟨ret_bool (by rw [HR.out]; decide), rfl⟩)
theorem extract_all (s : ByteArray) : s.extract 0 s.size = s := by
 apply ByteArray.ext
 rw [ByteArray.data_extract]
 exact Array.extract_size
/-- the first k bytes stand in a row, and no more -/
def RowEnd (s : ByteArray) (k : Nat) : Prop := k ≤ s.size ∧ (∀ j, j < k → inRow (bt s j) = true) ∧ (k < s.size → inRow (bt s k) = false)
theorem RowEnd.unique {s : ByteArray} {k m : Nat} (h : RowEnd s k) (h' : RowEnd s m) : k = m := by
 rcases Nat.lt_trichotomy k m with hlt | rfl | hlt
 ·have h1 := h.2.2 (by have := h'.1; omega)
  have h2 := h'.2.1 k hlt
  rw [h1] at h2; cases h2
 ·rfl
 ·have h1 := h'.2.2 (by have := h.1; omega)
  have h2 := h.2.1 m hlt
  rw [h1] at h2; cases h2

set_option maxRecDepth 100000 in
set_option maxHeartbeats 1600000 in
theorem rowOf_n (s : ByteArray) (w : World) (hs : s.size ≤ 1099511627776) :
  Calls Tryz.prog 139 #[.string s] w fun e w' => ∃ k, RowEnd s k ∧ e = .returned (.string (s.extract 0 k)) ∧ w = w' := by
 go_enter Tryz.func139, Tryz.ntmps139
 go_wp2_with fail
 go_loop [3] (fun i => ∃ k : Nat, k ≤ s.size ∧ i = .int .i64 k ∧ Hid (∀ j, j < k → inRow (bt s j) = true)) (fun i => s.size - (intOf i).toNat)
 case atStart => exact ⟨0, Nat.zero_le _, rfl, fun j hj => absurd hj (by omega)⟩
 case round =>
  obtain ⟨k, hk, rfl, HJ⟩ := hrel
  by_cases hkl : k < s.size
  ·have hb := bt_lt s k
   have he := bt_eq s k hkl
   go_wp2_with fail
   refine (isRow_n ((s[k]'hkl).toNat : Int) (by omega) (by omega) w).mono ?_
   rintro e w' ⟨rfl, rfl⟩
   rw [← he]
   cases hr : inRow (bt s k)
   ·have HE : Hid (RowEnd s k) := ⟨hk, HJ.out, fun _ => hr⟩
    clear hr HJ
    go_wp2_with fail
    go_ret
    exact ⟨k, HE.out, rfl, rfl⟩
   ·have HE : Hid (∀ j, j < k + 1 → inRow (bt s j) = true) := by
     show ∀ _, _
     intro j hj
     by_cases e : j = k
     ·rw [e]; exact hr
     ·exact HJ.out j (by omega)
    clear hr HJ
    go_wp2_with fail
    exact ⟨⟨k + 1, by omega, by go_num, HE⟩, by simp [intOf]; omega⟩
  ·obtain rfl : k = s.size := by omega
   have HE : Hid (RowEnd s s.size) := ⟨Nat.le_refl _, HJ.out, fun h => absurd h (by omega)⟩
   go_wp2_with fail
   go_ret
   exact ⟨_, HE.out, by rw [extract_all]; rfl, rfl⟩

/-- from place a on blanks stand up to place k, and no more -/
def BlankEnd (s : ByteArray) (a k : Nat) : Prop := a ≤ k ∧ k ≤ s.size ∧ (∀ j, a ≤ j → j < k → cls (bt s j) = 0) ∧ (k < s.size → cls (bt s k) ≠ 0)
theorem BlankEnd.unique {s : ByteArray} {a k m : Nat} (h : BlankEnd s a k) (h' : BlankEnd s a m) : k = m := by
 rcases Nat.lt_trichotomy k m with hlt | rfl | hlt
 ·exact absurd (h'.2.2.1 k h.1 hlt) (h.2.2.2 (by have := h'.2.1; omega))
 ·rfl
 ·exact absurd (h.2.2.1 m h'.1 hlt) (h'.2.2.2 (by have := h.2.1; omega))

set_option maxRecDepth 100000 in
set_option maxHeartbeats 1600000 in
theorem passBlanks_n (s : ByteArray) (a : Nat) (w : World) (hs : s.size ≤ 1099511627776) (ha : a ≤ s.size) :
  Calls Tryz.prog 108 #[.string s, .int .i64 a] w fun e w' => ∃ k : Nat, BlankEnd s a k ∧ e = .returned (.int .i64 k) ∧ w = w' := by
 go_enter Tryz.func108, Tryz.ntmps108
 go_wp2_with fail
 go_loop [1] (fun i => ∃ k : Nat, a ≤ k ∧ k ≤ s.size ∧ i = .int .i64 k ∧ Hid (∀ j, a ≤ j → j < k → cls (bt s j) = 0)) (fun i => s.size - (intOf i).toNat)
 case atStart => exact ⟨a, Nat.le_refl _, ha, rfl, fun j hj hj' => absurd hj (by omega)⟩
 case round =>
  obtain ⟨k, hak, hk, rfl, HJ⟩ := hrel
  by_cases hkl : k < s.size
  ·have hb := bt_lt s k
   have he := bt_eq s k hkl
   go_wp2_with fail
   refine (lookAt_n ((s[k]'hkl).toNat : Int) (by omega) (by omega) w).mono ?_
   rintro e w' ⟨rfl, rfl⟩
   rw [← he]
   have hcb := cls_bd (bt s k)
   by_cases hr : cls (bt s k) = 0
   ·have HE : Hid (∀ j, a ≤ j → j < k + 1 → cls (bt s j) = 0) := by
     show ∀ _, _
     intro j hj hj'
     by_cases e : j = k
     ·rw [e]; exact hr
     ·exact HJ.out j hj (by omega)
    rw [hr]
    clear hr HJ hcb
    go_wp2_with fail
    exact ⟨⟨k + 1, by omega, by omega, by go_num, HE⟩, by simp [intOf]; omega⟩
   ·have HE : Hid (BlankEnd s a k) := ⟨hak, hk, HJ.out, fun _ => hr⟩
    have hr2 : (cls (bt s k) == 0) = false := by rw [beq_eq_false_iff_ne]; exact hr
    clear HJ hr
    generalize cls (bt s k) = c at *
    go_wp2_with fail
    go_ret
    exact ⟨k, HE.out, rfl, rfl⟩
  ·obtain rfl : k = s.size := by omega
   have HE : Hid (BlankEnd s a s.size) := ⟨hak, Nat.le_refl _, HJ.out, fun h => absurd h (by omega)⟩
   go_wp2_with fail
   go_ret
   exact ⟨_, HE.out, rfl, rfl⟩
end Go.Proofs.YtgpaajolcpgeaaaGreatDoor

namespace Go.Proofs.YtgpaajolcpgeaaaGreatDoor
open Go.RowKit

/-- is a text one of the ten words? -/
def tenB (s : ByteArray) : Bool := (s.toList == [97, 110, 100]) || (s.toList == [111, 114]) || (s.toList == [110, 111, 116]) || (s.toList == [105, 109, 112, 108, 105, 101, 115]) || (s.toList == [105, 102, 102]) || (s.toList == [115, 111, 109, 101]) || (s.toList == [97, 108, 108]) || (s.toList == [116, 114, 117, 101]) || (s.toList == [102, 97, 108, 115, 101]) || (s.toList == [100, 105, 118, 105, 100, 101, 115])
/-- the kind of a row that begins with a letter -/
def kd (s : ByteArray) : Int := if tenB s then 3 else if 24 < s.size then 0 else 2

set_option maxRecDepth 100000 in
set_option maxHeartbeats 1600000 in
theorem kindOf_n (s : ByteArray) (w : World) (hs : s.size ≤ 1099511627776) :
  Calls Tryz.prog 141 #[.string s] w fun e w' => e = .returned (.int .i64 (kd s)) ∧ w = w' := by
 have HK : Hid (kd s = if tenB s then 3 else if 24 < s.size then 0 else 2) := rfl
 have HT : Hid (tenB s = ((s.toList == [97, 110, 100]) || (s.toList == [111, 114]) || (s.toList == [110, 111, 116]) || (s.toList == [105, 109, 112, 108, 105, 101, 115]) || (s.toList == [105, 102, 102]) || (s.toList == [115, 111, 109, 101]) || (s.toList == [97, 108, 108]) || (s.toList == [116, 114, 117, 101]) || (s.toList == [102, 97, 108, 115, 101]) || (s.toList == [100, 105, 118, 105, 100, 101, 115]))) := rfl
 cases h0 : (s.toList == [97, 110, 100])
 case true =>
  have HC : Hid (kd s = 3) := by show _ = _; rw [HK.out, HT.out, h0]; simp
  clear HK HT
  go_enter Tryz.func141, Tryz.ntmps141
  go_wp2
  go_ret
  exact ⟨ret_int HC.out.symm, rfl⟩
 cases h1 : (s.toList == [111, 114])
 case true =>
  have HC : Hid (kd s = 3) := by show _ = _; rw [HK.out, HT.out, h0, h1]; simp
  clear HK HT
  go_enter Tryz.func141, Tryz.ntmps141
  go_wp2
  go_ret
  exact ⟨ret_int HC.out.symm, rfl⟩
 cases h2 : (s.toList == [110, 111, 116])
 case true =>
  have HC : Hid (kd s = 3) := by show _ = _; rw [HK.out, HT.out, h0, h1, h2]; simp
  clear HK HT
  go_enter Tryz.func141, Tryz.ntmps141
  go_wp2
  go_ret
  exact ⟨ret_int HC.out.symm, rfl⟩
 cases h3 : (s.toList == [105, 109, 112, 108, 105, 101, 115])
 case true =>
  have HC : Hid (kd s = 3) := by show _ = _; rw [HK.out, HT.out, h0, h1, h2, h3]; simp
  clear HK HT
  go_enter Tryz.func141, Tryz.ntmps141
  go_wp2
  go_ret
  exact ⟨ret_int HC.out.symm, rfl⟩
 cases h4 : (s.toList == [105, 102, 102])
 case true =>
  have HC : Hid (kd s = 3) := by show _ = _; rw [HK.out, HT.out, h0, h1, h2, h3, h4]; simp
  clear HK HT
  go_enter Tryz.func141, Tryz.ntmps141
  go_wp2
  go_ret
  exact ⟨ret_int HC.out.symm, rfl⟩
 cases h5 : (s.toList == [115, 111, 109, 101])
 case true =>
  have HC : Hid (kd s = 3) := by show _ = _; rw [HK.out, HT.out, h0, h1, h2, h3, h4, h5]; simp
  clear HK HT
  go_enter Tryz.func141, Tryz.ntmps141
  go_wp2
  go_ret
  exact ⟨ret_int HC.out.symm, rfl⟩
 cases h6 : (s.toList == [97, 108, 108])
 case true =>
  have HC : Hid (kd s = 3) := by show _ = _; rw [HK.out, HT.out, h0, h1, h2, h3, h4, h5, h6]; simp
  clear HK HT
  go_enter Tryz.func141, Tryz.ntmps141
  go_wp2
  go_ret
  exact ⟨ret_int HC.out.symm, rfl⟩
 cases h7 : (s.toList == [116, 114, 117, 101])
 case true =>
  have HC : Hid (kd s = 3) := by show _ = _; rw [HK.out, HT.out, h0, h1, h2, h3, h4, h5, h6, h7]; simp
  clear HK HT
  go_enter Tryz.func141, Tryz.ntmps141
  go_wp2
  go_ret
  exact ⟨ret_int HC.out.symm, rfl⟩
 cases h8 : (s.toList == [102, 97, 108, 115, 101])
 case true =>
  have HC : Hid (kd s = 3) := by show _ = _; rw [HK.out, HT.out, h0, h1, h2, h3, h4, h5, h6, h7, h8]; simp
  clear HK HT
  go_enter Tryz.func141, Tryz.ntmps141
  go_wp2
  go_ret
  exact ⟨ret_int HC.out.symm, rfl⟩
 cases h9 : (s.toList == [100, 105, 118, 105, 100, 101, 115])
 case true =>
  have HC : Hid (kd s = 3) := by show _ = _; rw [HK.out, HT.out, h0, h1, h2, h3, h4, h5, h6, h7, h8, h9]; simp
  clear HK HT
  go_enter Tryz.func141, Tryz.ntmps141
  go_wp2
  go_ret
  exact ⟨ret_int HC.out.symm, rfl⟩
 have HC : Hid (kd s = if 24 < s.size then 0 else 2) := by show _ = _; rw [HK.out, HT.out, h0, h1, h2, h3, h4, h5, h6, h7, h8, h9]; simp
 clear HK HT
 by_cases hl : 24 < s.size
 ·rw [if_pos hl] at HC
  go_enter Tryz.func141, Tryz.ntmps141
  go_wp2
  go_ret
  exact ⟨ret_int HC.out.symm, rfl⟩
 ·rw [if_neg hl] at HC
  go_enter Tryz.func141, Tryz.ntmps141
  go_wp2
  go_ret
  exact ⟨ret_int HC.out.symm, rfl⟩
end Go.Proofs.YtgpaajolcpgeaaaGreatDoor

namespace Go.Proofs.YtgpaajolcpgeaaaGreatDoor
open Go.RowKit

theorem results_ct' {P : Program} {fn : Func} {p1 t3 : Tmp} {ty : TypeId} (h : fn.results = #[.cell p1 ty, .tmp t3]) (tmps : Array Value) (w : World) (g1 : Nat) (t : TypeId) (cs1 : Array Value) (fr : Nat × Nat) (d : TypeDesc)
  (hp1 : tmps.getD p1 undef = .pointer (some ⟨g1, 0, none⟩)) (hg1 : w.heap[g1]? = some (.cells cs1 t fr))
  (hu : P.underlying ty = some d) (hd : (match d with | .struct _ | .array _ _ => true | _ => false) = true) (hi1 : (P.info? ty).map (·.size) = some cs1.size) :
  (results fn tmps).run P w = .ok (.tuple #[.agg cs1, tmps.getD t3 undef]) w := by
 have hp1' : tmps[p1]?.getD undef = .pointer (some ⟨g1, 0, none⟩) := by simpa using hp1
 simp [results, h, hp1', asAddr, run_loadVar_row w g1 t ty cs1 fr d hg1 hu hd hi1]

set_option maxRecDepth 100000 in
set_option maxHeartbeats 1600000 in
theorem plain_yes (k : Int) (s : ByteArray) (a : Nat) (w : World) (hk0 : 0 < k) (hs0 : 0 < s.size) :
  Calls Tryz.prog 140 #[.int .i64 k, .string s, .int .i64 a] w fun e w' => e = .returned (.tuple #[.agg #[.int .i64 k, .string s, .bool false, .slice none 0 0, .int .i64 a], .int .i64 0]) ∧ Below w.heap.size w w' := by
 have hne := ne_empty hs0
 have hk1 : (k == 0) = false := by rw [beq_eq_false_iff_ne]; omega
 go_enter Tryz.func140, Tryz.ntmps140
 go_wp2
 refine bodyPost_ret (results_ct' rfl _ _ w.heap.size 119 _ (0, 0) _ rfl (heap_alloc_new w _) Tryz.underlying119 rfl (by kernel_rfl)) rfl ?_
 exact ⟨by simp, below_alloc _ _⟩

set_option maxRecDepth 100000 in
set_option maxHeartbeats 1600000 in
theorem plain_no (k : Int) (s : ByteArray) (a : Nat) (w : World) (hk : k = 0 ∨ s.size = 0) :
  Calls Tryz.prog 140 #[.int .i64 k, .string s, .int .i64 a] w fun e w' => e = .returned (.tuple #[.agg #[.int .i64 0, .string ⟨#[]⟩, .bool false, .slice none 0 0, .int .i64 0], .int .i64 30]) ∧ Below w.heap.size w w' := by
 by_cases h0 : k = 0
 ·subst h0
  go_enter Tryz.func140, Tryz.ntmps140
  go_wp2
  refine bodyPost_ret (results_ct' rfl _ _ w.heap.size 119 _ (0, 0) _ rfl (heap_alloc_new w _) Tryz.underlying119 rfl (by kernel_rfl)) rfl ?_
  exact ⟨by simp, below_alloc _ _⟩
 ·have hne := is_empty (show s.size = 0 from by omega)
  have hk1 : (k == 0) = false := by rw [beq_eq_false_iff_ne]; omega
  clear hk
  go_enter Tryz.func140, Tryz.ntmps140
  go_wp2
  refine bodyPost_ret (results_ct' rfl _ _ w.heap.size 119 _ (0, 0) _ rfl (heap_alloc_new w _) Tryz.underlying119 rfl (by kernel_rfl)) rfl ?_
  exact ⟨by simp, below_alloc _ _⟩

/-- the block of a word -/
def TB (w : World) (b : Nat) (v0 v1 v2 v3 v4 : Value) : Prop := w.heap[b]? = some (.cells #[v0, v1, v2, v3, v4] 119 (0, 0))
theorem TB.c0 {w : World} {b : Nat} {v0 v1 v2 v3 v4 : Value} (h : TB w b v0 v1 v2 v3 v4) : w.cell? ⟨b, 0, none⟩ = some v0 := cell_of_row w b 0 _ _ (0, 0) h
theorem TB.c1 {w : World} {b : Nat} {v0 v1 v2 v3 v4 : Value} (h : TB w b v0 v1 v2 v3 v4) : w.cell? ⟨b, 1, none⟩ = some v1 := cell_of_row w b 1 _ _ (0, 0) h
theorem TB.c2 {w : World} {b : Nat} {v0 v1 v2 v3 v4 : Value} (h : TB w b v0 v1 v2 v3 v4) : w.cell? ⟨b, 2, none⟩ = some v2 := cell_of_row w b 2 _ _ (0, 0) h
theorem TB.c3 {w : World} {b : Nat} {v0 v1 v2 v3 v4 : Value} (h : TB w b v0 v1 v2 v3 v4) : w.cell? ⟨b, 3, none⟩ = some v3 := cell_of_row w b 3 _ _ (0, 0) h
theorem TB.c4 {w : World} {b : Nat} {v0 v1 v2 v3 v4 : Value} (h : TB w b v0 v1 v2 v3 v4) : w.cell? ⟨b, 4, none⟩ = some v4 := cell_of_row w b 4 _ _ (0, 0) h
theorem TB.f {w : World} {b : Nat} {v0 v1 v2 v3 v4 : Value} (h : TB w b v0 v1 v2 v3 v4) (i : Nat) : w.frozen? ⟨b, i, none⟩ = false := frozen_of_row w b i _ _ h
theorem TB.lt {w : World} {b : Nat} {v0 v1 v2 v3 v4 : Value} (h : TB w b v0 v1 v2 v3 v4) : b < w.heap.size := by
 by_cases hb : b < w.heap.size
 ·exact hb
 ·rw [TB, Array.getElem?_eq_none (by omega)] at h; cases h
theorem TB.below {w w' : World} {b : Nat} {v0 v1 v2 v3 v4 : Value} (h : TB w b v0 v1 v2 v3 v4) (hb : Below w.heap.size w w') : TB w' b v0 v1 v2 v3 v4 := (hb.block b h.lt).trans h
theorem tb_new (w : World) (v0 v1 v2 v3 v4 : Value) : TB (w.alloc (.cells #[v0, v1, v2, v3, v4] 119)) w.heap.size v0 v1 v2 v3 v4 := heap_alloc_new w _
/-- a whole word is stored -/
def tokSet (w : World) (b : Nat) (u0 u1 u2 u3 u4 : Value) : World := ((((w.setCell ⟨b, 0, none⟩ u0).setCell ⟨b, 1, none⟩ u1).setCell ⟨b, 2, none⟩ u2).setCell ⟨b, 3, none⟩ u3).setCell ⟨b, 4, none⟩ u4
theorem tb_fin {w : World} {b : Nat} {v0 v1 v2 v3 v4 : Value} (h : TB w b v0 v1 v2 v3 v4) (u0 u1 u2 u3 u4 : Value) : TB (tokSet w b u0 u1 u2 u3 u4) b u0 u1 u2 u3 u4 := by
 have y0 := heap_setCell_same w b 0 _ 119 u0 h
 have y1 := heap_setCell_same _ b 1 _ 119 u1 y0
 have y2 := heap_setCell_same _ b 2 _ 119 u2 y1
 have y3 := heap_setCell_same _ b 3 _ 119 u3 y2
 have y4 := heap_setCell_same _ b 4 _ 119 u4 y3
 unfold TB tokSet
 simpa using y4
theorem tok_only (w : World) (b : Nat) (u0 u1 u2 u3 u4 : Value) : Only b w (tokSet w b u0 u1 u2 u3 u4) :=
 ((((Only.set b 0 w u0).trans (Only.set b 1 _ u1)).trans (Only.set b 2 _ u2)).trans (Only.set b 3 _ u3)).trans (Only.set b 4 _ u4)

set_option maxRecDepth 100000 in
set_option maxHeartbeats 1600000 in
theorem number_no (s : ByteArray) (a : Nat) (w : World) (hok : ¬ okText s) (hs : s.size ≤ 1099511627776) :
  Calls Tryz.prog 138 #[.string s, .int .i64 a] w fun e w' => e = .returned (.tuple #[.agg #[.int .i64 0, .string ⟨#[]⟩, .bool false, .slice none 0 0, .int .i64 0], .int .i64 12]) ∧ Below w.heap.size w w' := by
 have HOK := hide hok
 clear hok
 go_enter Tryz.func138, Tryz.ntmps138
 go_wp2_with fail
 refine (parse_no s _ (by omega) HOK.out).mono ?_
 rintro e w1 ⟨rfl, rfl⟩
 go_wp2
 refine bodyPost_ret (results_ct' rfl _ _ w.heap.size 119 _ (0, 0) _ rfl (heap_alloc_new w _) Tryz.underlying119 rfl (by kernel_rfl)) rfl ?_
 exact ⟨by simp, below_alloc _ _⟩

set_option maxRecDepth 100000 in
set_option maxHeartbeats 1600000 in
theorem number_yes (s : ByteArray) (a : Nat) (w : World) (hok : okText s) (hs : s.size ≤ 1099511627776) :
  Calls Tryz.prog 138 #[.string s, .int .i64 a] w fun e w' => ∃ ad len cap zs, e = .returned (.tuple #[.agg #[.int .i64 1, .string s, .bool false, .slice ad len cap, .int .i64 a], .int .i64 0]) ∧ Out w w' ad len cap zs ∧ Canon zs ∧ val zs = (dr s 0 s.size : Int) ∧ len ≤ s.size := by
 have HOK := hide hok
 clear hok
 go_enter Tryz.func138, Tryz.ntmps138
 go_wp2_with fail
 have y := tb_new w (.int .i64 0) (.string ⟨#[]⟩) (.bool false) (.slice none 0 0) (.int .i64 0)
 have b0 := below_alloc w (.cells #[.int .i64 0, .string ⟨#[]⟩, .bool false, .slice none 0 0, .int .i64 0] 119)
 generalize w.alloc (.cells #[.int .i64 0, .string ⟨#[]⟩, .bool false, .slice none 0 0, .int .i64 0] 119) = wb at *
 have hlt := y.lt
 generalize hp : w.heap.size = r at *
 replace hp := hide hp
 refine (parse_yes s _ (by omega) HOK.out).mono ?_
 rintro e w1 ⟨ad, len, cap, zs, rfl, ho, hc, hv, hl⟩
 have y' := y.below ho.1
 have y0 := y'.c0
 have y1 := y'.c1
 have y2 := y'.c2
 have y3 := y'.c3
 have y4 := y'.c4
 have z0 := y'.f 0
 have z1 := y'.f 1
 have z2 := y'.f 2
 have z3 := y'.f 3
 have z4 := y'.f 4
 go_wp2
 refine bodyPost_ret (results_ct' rfl _ _ r 119 _ (0, 0) _ rfl (tb_fin y' _ _ _ _ _) Tryz.underlying119 rfl (by kernel_rfl)) rfl ?_
 have hB : Below r w (tokSet w1 r (.int .i64 1) (.string s) (.bool false) (.slice ad len cap) (.int .i64 a)) := (b0.trans (ho.1.mono (Nat.le_of_lt hlt))).trans ((tok_only _ _ _ _ _ _ _).below (Nat.le_refl _))
 refine ⟨ad, len, cap, zs, by simp, ?_, hc, hv, hl⟩
 have b0' := hp.out.symm ▸ b0
 have hO : Out w (tokSet w1 r (.int .i64 1) (.string s) (.bool false) (.slice ad len cap) (.int .i64 a)) ad len cap zs :=
  (ho.outer b0').keep (hp.out.symm ▸ hB) (fun b hb => (tok_only _ _ _ _ _ _ _).block b (fun e => by have := (ho.lt hb).1; omega))
 exact hO
end Go.Proofs.YtgpaajolcpgeaaaGreatDoor

namespace Go.Proofs.YtgpaajolcpgeaaaGreatDoor
open Go.RowKit

theorem ba_ext {s t : ByteArray} (h : s.size = t.size) (hb : ∀ i, i < s.size → bt s i = bt t i) : s = t := by
 apply ByteArray.ext
 apply Array.ext
 ·exact h
 ·intro i h1 h2
  have := hb i h1
  rw [bt_eq s i h1, bt_eq t i h2] at this
  exact UInt8.toNat_inj.1 this
theorem toList_iff {s t : ByteArray} : (s.toList == t.toList) = true ↔ s = t := by
 rw [beq_iff_eq, ByteArray.toList_eq, ByteArray.toList_eq]
 constructor
 ·intro h
  exact ByteArray.ext (Array.toList_inj.1 h)
 ·rintro rfl; rfl
/-- does a text begin with another one? -/
def pfx (s p : ByteArray) : Bool := decide (p.size ≤ s.size) && ((s.extract 0 p.size).toList == p.toList)
theorem pfx_iff {s p : ByteArray} : pfx s p = true ↔ p.size ≤ s.size ∧ ∀ i, i < p.size → bt s i = bt p i := by
 unfold pfx
 rw [Bool.and_eq_true, decide_eq_true_iff, toList_iff]
 constructor
 ·rintro ⟨h1, h2⟩
  refine ⟨h1, fun i hi => ?_⟩
  have := bt_extract s 0 p.size i h1 (by omega)
  rw [h2, Nat.zero_add] at this
  exact this.symm
 ·rintro ⟨h1, h2⟩
  have hz : (s.extract 0 p.size).size = p.size := by rw [ByteArray.size_extract]; omega
  refine ⟨h1, ba_ext hz fun i hi => ?_⟩
  rw [hz] at hi
  rw [bt_extract s 0 p.size i h1 (by omega), Nat.zero_add]
  exact h2 i hi

set_option maxRecDepth 100000 in
set_option maxHeartbeats 1600000 in
theorem hasPrefix_in (s p : ByteArray) (w : World) (_hs : s.size ≤ 1099511627776) (_hp : p.size ≤ 1099511627776) :
  Calls Tryz.prog 182 #[.string s, .string p] w fun e w' => e = .returned (.bool (pfx s p)) ∧ w = w' := by
 by_cases h : p.size ≤ s.size
 ·go_enter Tryz.func182, Tryz.ntmps182
  go_wp2
  go_ret
  exact ⟨ret_bool (by simp [pfx, h]), rfl⟩
 ·go_enter Tryz.func182, Tryz.ntmps182
  go_wp2
  go_ret
  exact ⟨ret_bool (by simp [pfx, h]), rfl⟩
set_option maxRecDepth 100000 in
set_option maxHeartbeats 1600000 in
theorem hasPrefix_n (s p : ByteArray) (w : World) (hs : s.size ≤ 1099511627776) (hp : p.size ≤ 1099511627776) :
  Calls Tryz.prog 165 #[.string s, .string p] w fun e w' => e = .returned (.bool (pfx s p)) ∧ w = w' := by
 go_enter Tryz.func165, Tryz.ntmps165
 go_wp2_with fail
 refine (hasPrefix_in s p w hs hp).mono ?_
 rintro e w' ⟨rfl, rfl⟩
 go_wp2_with fail
 go_ret
 exact ⟨rfl, rfl⟩

theorem ret_str {a b : ByteArray} (h : a = b) : Ending.returned (.string a) = .returned (.string b) := by rw [h]
/-- the signs, those of two bytes first -/
def signL : List ByteArray := [⟨#[60, 61]⟩, ⟨#[62, 61]⟩, ⟨#[33, 61]⟩, ⟨#[60]⟩, ⟨#[62]⟩, ⟨#[61]⟩, ⟨#[43]⟩, ⟨#[45]⟩, ⟨#[42]⟩, ⟨#[46]⟩, ⟨#[40]⟩, ⟨#[41]⟩]
/-- the variable that holds them -/
def Sgn (w : World) : Prop := ∃ ty fr, w.heap[1]? = some (.cells #[.string ⟨#[60, 61]⟩, .string ⟨#[62, 61]⟩, .string ⟨#[33, 61]⟩, .string ⟨#[60]⟩, .string ⟨#[62]⟩, .string ⟨#[61]⟩, .string ⟨#[43]⟩, .string ⟨#[45]⟩, .string ⟨#[42]⟩, .string ⟨#[46]⟩, .string ⟨#[40]⟩, .string ⟨#[41]⟩] ty fr)
theorem Sgn.below {w w' : World} (h : Sgn w) (hb : Below w.heap.size w w') : Sgn w' := by
 obtain ⟨ty, fr, h⟩ := h
 have hlt : 1 < w.heap.size := (Array.getElem?_eq_some_iff.1 h).1
 exact ⟨ty, fr, (hb.block _ hlt).trans h⟩

theorem find_hit {α : Type} {l : List α} {f : α → Bool} {k : Nat} {p : α} (h : (l.take k).find? f = none) (hk : l[k]? = some p) (hp : f p = true) : l.find? f = some p := by
 obtain ⟨hlt, e⟩ := List.getElem?_eq_some_iff.1 hk
 have e2 : l = l.take k ++ p :: l.drop (k + 1) := by
  rw [← e, List.getElem_cons_drop, List.take_append_drop]
 rw [e2, List.find?_append, h, List.find?_cons_of_pos hp]
 rfl
theorem find_miss {α : Type} {l : List α} {f : α → Bool} {k : Nat} {p : α} (h : (l.take k).find? f = none) (hk : l[k]? = some p) (hp : f p = false) : (l.take (k + 1)).find? f = none := by
 rw [List.take_add_one, List.find?_append, h, hk]
 simp [hp]
/-- the sign that a text begins with -/
def sgOf (s : ByteArray) : ByteArray := (signL.find? (pfx s)).getD ⟨#[]⟩

theorem sgn_at0 (w : World) : Sem.run Tryz.prog (Instr.index 199 (.agg #[.string ⟨#[60, 61]⟩, .string ⟨#[62, 61]⟩, .string ⟨#[33, 61]⟩, .string ⟨#[60]⟩, .string ⟨#[62]⟩, .string ⟨#[61]⟩, .string ⟨#[43]⟩, .string ⟨#[45]⟩, .string ⟨#[42]⟩, .string ⟨#[46]⟩, .string ⟨#[40]⟩, .string ⟨#[41]⟩]) (.int .i64 0)) w = .ok (.string ⟨#[60, 61]⟩) w := by kernel_rfl
theorem sgn_at1 (w : World) : Sem.run Tryz.prog (Instr.index 199 (.agg #[.string ⟨#[60, 61]⟩, .string ⟨#[62, 61]⟩, .string ⟨#[33, 61]⟩, .string ⟨#[60]⟩, .string ⟨#[62]⟩, .string ⟨#[61]⟩, .string ⟨#[43]⟩, .string ⟨#[45]⟩, .string ⟨#[42]⟩, .string ⟨#[46]⟩, .string ⟨#[40]⟩, .string ⟨#[41]⟩]) (.int .i64 1)) w = .ok (.string ⟨#[62, 61]⟩) w := by kernel_rfl
theorem sgn_at2 (w : World) : Sem.run Tryz.prog (Instr.index 199 (.agg #[.string ⟨#[60, 61]⟩, .string ⟨#[62, 61]⟩, .string ⟨#[33, 61]⟩, .string ⟨#[60]⟩, .string ⟨#[62]⟩, .string ⟨#[61]⟩, .string ⟨#[43]⟩, .string ⟨#[45]⟩, .string ⟨#[42]⟩, .string ⟨#[46]⟩, .string ⟨#[40]⟩, .string ⟨#[41]⟩]) (.int .i64 2)) w = .ok (.string ⟨#[33, 61]⟩) w := by kernel_rfl
theorem sgn_at3 (w : World) : Sem.run Tryz.prog (Instr.index 199 (.agg #[.string ⟨#[60, 61]⟩, .string ⟨#[62, 61]⟩, .string ⟨#[33, 61]⟩, .string ⟨#[60]⟩, .string ⟨#[62]⟩, .string ⟨#[61]⟩, .string ⟨#[43]⟩, .string ⟨#[45]⟩, .string ⟨#[42]⟩, .string ⟨#[46]⟩, .string ⟨#[40]⟩, .string ⟨#[41]⟩]) (.int .i64 3)) w = .ok (.string ⟨#[60]⟩) w := by kernel_rfl
theorem sgn_at4 (w : World) : Sem.run Tryz.prog (Instr.index 199 (.agg #[.string ⟨#[60, 61]⟩, .string ⟨#[62, 61]⟩, .string ⟨#[33, 61]⟩, .string ⟨#[60]⟩, .string ⟨#[62]⟩, .string ⟨#[61]⟩, .string ⟨#[43]⟩, .string ⟨#[45]⟩, .string ⟨#[42]⟩, .string ⟨#[46]⟩, .string ⟨#[40]⟩, .string ⟨#[41]⟩]) (.int .i64 4)) w = .ok (.string ⟨#[62]⟩) w := by kernel_rfl
theorem sgn_at5 (w : World) : Sem.run Tryz.prog (Instr.index 199 (.agg #[.string ⟨#[60, 61]⟩, .string ⟨#[62, 61]⟩, .string ⟨#[33, 61]⟩, .string ⟨#[60]⟩, .string ⟨#[62]⟩, .string ⟨#[61]⟩, .string ⟨#[43]⟩, .string ⟨#[45]⟩, .string ⟨#[42]⟩, .string ⟨#[46]⟩, .string ⟨#[40]⟩, .string ⟨#[41]⟩]) (.int .i64 5)) w = .ok (.string ⟨#[61]⟩) w := by kernel_rfl
theorem sgn_at6 (w : World) : Sem.run Tryz.prog (Instr.index 199 (.agg #[.string ⟨#[60, 61]⟩, .string ⟨#[62, 61]⟩, .string ⟨#[33, 61]⟩, .string ⟨#[60]⟩, .string ⟨#[62]⟩, .string ⟨#[61]⟩, .string ⟨#[43]⟩, .string ⟨#[45]⟩, .string ⟨#[42]⟩, .string ⟨#[46]⟩, .string ⟨#[40]⟩, .string ⟨#[41]⟩]) (.int .i64 6)) w = .ok (.string ⟨#[43]⟩) w := by kernel_rfl
theorem sgn_at7 (w : World) : Sem.run Tryz.prog (Instr.index 199 (.agg #[.string ⟨#[60, 61]⟩, .string ⟨#[62, 61]⟩, .string ⟨#[33, 61]⟩, .string ⟨#[60]⟩, .string ⟨#[62]⟩, .string ⟨#[61]⟩, .string ⟨#[43]⟩, .string ⟨#[45]⟩, .string ⟨#[42]⟩, .string ⟨#[46]⟩, .string ⟨#[40]⟩, .string ⟨#[41]⟩]) (.int .i64 7)) w = .ok (.string ⟨#[45]⟩) w := by kernel_rfl
theorem sgn_at8 (w : World) : Sem.run Tryz.prog (Instr.index 199 (.agg #[.string ⟨#[60, 61]⟩, .string ⟨#[62, 61]⟩, .string ⟨#[33, 61]⟩, .string ⟨#[60]⟩, .string ⟨#[62]⟩, .string ⟨#[61]⟩, .string ⟨#[43]⟩, .string ⟨#[45]⟩, .string ⟨#[42]⟩, .string ⟨#[46]⟩, .string ⟨#[40]⟩, .string ⟨#[41]⟩]) (.int .i64 8)) w = .ok (.string ⟨#[42]⟩) w := by kernel_rfl
theorem sgn_at9 (w : World) : Sem.run Tryz.prog (Instr.index 199 (.agg #[.string ⟨#[60, 61]⟩, .string ⟨#[62, 61]⟩, .string ⟨#[33, 61]⟩, .string ⟨#[60]⟩, .string ⟨#[62]⟩, .string ⟨#[61]⟩, .string ⟨#[43]⟩, .string ⟨#[45]⟩, .string ⟨#[42]⟩, .string ⟨#[46]⟩, .string ⟨#[40]⟩, .string ⟨#[41]⟩]) (.int .i64 9)) w = .ok (.string ⟨#[46]⟩) w := by kernel_rfl
theorem sgn_at10 (w : World) : Sem.run Tryz.prog (Instr.index 199 (.agg #[.string ⟨#[60, 61]⟩, .string ⟨#[62, 61]⟩, .string ⟨#[33, 61]⟩, .string ⟨#[60]⟩, .string ⟨#[62]⟩, .string ⟨#[61]⟩, .string ⟨#[43]⟩, .string ⟨#[45]⟩, .string ⟨#[42]⟩, .string ⟨#[46]⟩, .string ⟨#[40]⟩, .string ⟨#[41]⟩]) (.int .i64 10)) w = .ok (.string ⟨#[40]⟩) w := by kernel_rfl
theorem sgn_at11 (w : World) : Sem.run Tryz.prog (Instr.index 199 (.agg #[.string ⟨#[60, 61]⟩, .string ⟨#[62, 61]⟩, .string ⟨#[33, 61]⟩, .string ⟨#[60]⟩, .string ⟨#[62]⟩, .string ⟨#[61]⟩, .string ⟨#[43]⟩, .string ⟨#[45]⟩, .string ⟨#[42]⟩, .string ⟨#[46]⟩, .string ⟨#[40]⟩, .string ⟨#[41]⟩]) (.int .i64 11)) w = .ok (.string ⟨#[41]⟩) w := by kernel_rfl
set_option maxRecDepth 100000 in
set_option maxHeartbeats 1600000 in
theorem signOf_n (s : ByteArray) (w : World) (hs : s.size ≤ 1099511627776) (h : Sgn w) :
  Calls Tryz.prog 142 #[.string s] w fun e w' => e = .returned (.string (sgOf s)) ∧ w = w' := by
 obtain ⟨ty, fr, h⟩ := h
 have c0 := cell_of_row w 1 0 _ _ fr h
 have c1 := cell_of_row w 1 1 _ _ fr h
 have c2 := cell_of_row w 1 2 _ _ fr h
 have c3 := cell_of_row w 1 3 _ _ fr h
 have c4 := cell_of_row w 1 4 _ _ fr h
 have c5 := cell_of_row w 1 5 _ _ fr h
 have c6 := cell_of_row w 1 6 _ _ fr h
 have c7 := cell_of_row w 1 7 _ _ fr h
 have c8 := cell_of_row w 1 8 _ _ fr h
 have c9 := cell_of_row w 1 9 _ _ fr h
 have c10 := cell_of_row w 1 10 _ _ fr h
 have c11 := cell_of_row w 1 11 _ _ fr h
 clear h
 go_enter Tryz.func142, Tryz.ntmps142
 go_wp2_with fail
 go_loop [6] (fun i => ∃ k : Nat, k ≤ 12 ∧ i = .int .i64 k ∧ Hid ((signL.take k).find? (pfx s) = none)) (fun i => 12 - (intOf i).toNat)
 case atStart => exact ⟨0, by decide, rfl, rfl⟩
 case round =>
  obtain ⟨k, hk, rfl, HJ⟩ := hrel
  have i0 := sgn_at0 w
  have i1 := sgn_at1 w
  have i2 := sgn_at2 w
  have i3 := sgn_at3 w
  have i4 := sgn_at4 w
  have i5 := sgn_at5 w
  have i6 := sgn_at6 w
  have i7 := sgn_at7 w
  have i8 := sgn_at8 w
  have i9 := sgn_at9 w
  have i10 := sgn_at10 w
  have i11 := sgn_at11 w
  clear c0 c1 c2 c3 c4 c5 c6 c7 c8 c9 c10 c11
  rcases (show k = 0 ∨ k = 1 ∨ k = 2 ∨ k = 3 ∨ k = 4 ∨ k = 5 ∨ k = 6 ∨ k = 7 ∨ k = 8 ∨ k = 9 ∨ k = 10 ∨ k = 11 ∨ k = 12 from by omega) with rfl | rfl | rfl | rfl | rfl | rfl | rfl | rfl | rfl | rfl | rfl | rfl | rfl
  case inr.inr.inr.inr.inr.inr.inr.inr.inr.inr.inr.inr =>
   go_wp2_with fail
   go_ret
   exact ⟨ret_str (by unfold sgOf; rw [show signL = signL.take 12 from rfl, HJ.out]; rfl), rfl⟩
  all_goals (
   go_wp2_with fail
   refine (hasPrefix_n s _ w hs ?_).mono ?_
   ·decide
   rintro e w' ⟨rfl, rfl⟩)
  ·cases hq : pfx s ⟨#[60, 61]⟩
   ·have HN : Hid ((signL.take 1).find? (pfx s) = none) := find_miss (k := 0) HJ.out rfl hq
    clear hq HJ
    go_wp2_with fail
    exact ⟨⟨1, by decide, rfl, HN⟩, by decide⟩
   ·have HN : Hid (signL.find? (pfx s) = some ⟨#[60, 61]⟩) := find_hit (k := 0) HJ.out rfl hq
    clear hq HJ
    go_wp2_with fail
    go_ret
    exact ⟨ret_str (by unfold sgOf; rw [HN.out]; rfl), rfl⟩
  ·cases hq : pfx s ⟨#[62, 61]⟩
   ·have HN : Hid ((signL.take 2).find? (pfx s) = none) := find_miss (k := 1) HJ.out rfl hq
    clear hq HJ
    go_wp2_with fail
    exact ⟨⟨2, by decide, rfl, HN⟩, by decide⟩
   ·have HN : Hid (signL.find? (pfx s) = some ⟨#[62, 61]⟩) := find_hit (k := 1) HJ.out rfl hq
    clear hq HJ
    go_wp2_with fail
    go_ret
    exact ⟨ret_str (by unfold sgOf; rw [HN.out]; rfl), rfl⟩
  ·cases hq : pfx s ⟨#[33, 61]⟩
   ·have HN : Hid ((signL.take 3).find? (pfx s) = none) := find_miss (k := 2) HJ.out rfl hq
    clear hq HJ
    go_wp2_with fail
    exact ⟨⟨3, by decide, rfl, HN⟩, by decide⟩
   ·have HN : Hid (signL.find? (pfx s) = some ⟨#[33, 61]⟩) := find_hit (k := 2) HJ.out rfl hq
    clear hq HJ
    go_wp2_with fail
    go_ret
    exact ⟨ret_str (by unfold sgOf; rw [HN.out]; rfl), rfl⟩
  ·cases hq : pfx s ⟨#[60]⟩
   ·have HN : Hid ((signL.take 4).find? (pfx s) = none) := find_miss (k := 3) HJ.out rfl hq
    clear hq HJ
    go_wp2_with fail
    exact ⟨⟨4, by decide, rfl, HN⟩, by decide⟩
   ·have HN : Hid (signL.find? (pfx s) = some ⟨#[60]⟩) := find_hit (k := 3) HJ.out rfl hq
    clear hq HJ
    go_wp2_with fail
    go_ret
    exact ⟨ret_str (by unfold sgOf; rw [HN.out]; rfl), rfl⟩
  ·cases hq : pfx s ⟨#[62]⟩
   ·have HN : Hid ((signL.take 5).find? (pfx s) = none) := find_miss (k := 4) HJ.out rfl hq
    clear hq HJ
    go_wp2_with fail
    exact ⟨⟨5, by decide, rfl, HN⟩, by decide⟩
   ·have HN : Hid (signL.find? (pfx s) = some ⟨#[62]⟩) := find_hit (k := 4) HJ.out rfl hq
    clear hq HJ
    go_wp2_with fail
    go_ret
    exact ⟨ret_str (by unfold sgOf; rw [HN.out]; rfl), rfl⟩
  ·cases hq : pfx s ⟨#[61]⟩
   ·have HN : Hid ((signL.take 6).find? (pfx s) = none) := find_miss (k := 5) HJ.out rfl hq
    clear hq HJ
    go_wp2_with fail
    exact ⟨⟨6, by decide, rfl, HN⟩, by decide⟩
   ·have HN : Hid (signL.find? (pfx s) = some ⟨#[61]⟩) := find_hit (k := 5) HJ.out rfl hq
    clear hq HJ
    go_wp2_with fail
    go_ret
    exact ⟨ret_str (by unfold sgOf; rw [HN.out]; rfl), rfl⟩
  ·cases hq : pfx s ⟨#[43]⟩
   ·have HN : Hid ((signL.take 7).find? (pfx s) = none) := find_miss (k := 6) HJ.out rfl hq
    clear hq HJ
    go_wp2_with fail
    exact ⟨⟨7, by decide, rfl, HN⟩, by decide⟩
   ·have HN : Hid (signL.find? (pfx s) = some ⟨#[43]⟩) := find_hit (k := 6) HJ.out rfl hq
    clear hq HJ
    go_wp2_with fail
    go_ret
    exact ⟨ret_str (by unfold sgOf; rw [HN.out]; rfl), rfl⟩
  ·cases hq : pfx s ⟨#[45]⟩
   ·have HN : Hid ((signL.take 8).find? (pfx s) = none) := find_miss (k := 7) HJ.out rfl hq
    clear hq HJ
    go_wp2_with fail
    exact ⟨⟨8, by decide, rfl, HN⟩, by decide⟩
   ·have HN : Hid (signL.find? (pfx s) = some ⟨#[45]⟩) := find_hit (k := 7) HJ.out rfl hq
    clear hq HJ
    go_wp2_with fail
    go_ret
    exact ⟨ret_str (by unfold sgOf; rw [HN.out]; rfl), rfl⟩
  ·cases hq : pfx s ⟨#[42]⟩
   ·have HN : Hid ((signL.take 9).find? (pfx s) = none) := find_miss (k := 8) HJ.out rfl hq
    clear hq HJ
    go_wp2_with fail
    exact ⟨⟨9, by decide, rfl, HN⟩, by decide⟩
   ·have HN : Hid (signL.find? (pfx s) = some ⟨#[42]⟩) := find_hit (k := 8) HJ.out rfl hq
    clear hq HJ
    go_wp2_with fail
    go_ret
    exact ⟨ret_str (by unfold sgOf; rw [HN.out]; rfl), rfl⟩
  ·cases hq : pfx s ⟨#[46]⟩
   ·have HN : Hid ((signL.take 10).find? (pfx s) = none) := find_miss (k := 9) HJ.out rfl hq
    clear hq HJ
    go_wp2_with fail
    exact ⟨⟨10, by decide, rfl, HN⟩, by decide⟩
   ·have HN : Hid (signL.find? (pfx s) = some ⟨#[46]⟩) := find_hit (k := 9) HJ.out rfl hq
    clear hq HJ
    go_wp2_with fail
    go_ret
    exact ⟨ret_str (by unfold sgOf; rw [HN.out]; rfl), rfl⟩
  ·cases hq : pfx s ⟨#[40]⟩
   ·have HN : Hid ((signL.take 11).find? (pfx s) = none) := find_miss (k := 10) HJ.out rfl hq
    clear hq HJ
    go_wp2_with fail
    exact ⟨⟨11, by decide, rfl, HN⟩, by decide⟩
   ·have HN : Hid (signL.find? (pfx s) = some ⟨#[40]⟩) := find_hit (k := 10) HJ.out rfl hq
    clear hq HJ
    go_wp2_with fail
    go_ret
    exact ⟨ret_str (by unfold sgOf; rw [HN.out]; rfl), rfl⟩
  ·cases hq : pfx s ⟨#[41]⟩
   ·have HN : Hid ((signL.take 12).find? (pfx s) = none) := find_miss (k := 11) HJ.out rfl hq
    clear hq HJ
    go_wp2_with fail
    exact ⟨⟨12, by decide, rfl, HN⟩, by decide⟩
   ·have HN : Hid (signL.find? (pfx s) = some ⟨#[41]⟩) := find_hit (k := 11) HJ.out rfl hq
    clear hq HJ
    go_wp2_with fail
    go_ret
    exact ⟨ret_str (by unfold sgOf; rw [HN.out]; rfl), rfl⟩
end Go.Proofs.YtgpaajolcpgeaaaGreatDoor

namespace Go.Proofs.YtgpaajolcpgeaaaGreatDoor
open Go.RowKit

/-- a word: its kind, its bytes, the number that it says, its place -/
structure TD where
  kind : Int
  text : ByteArray
  num : Int
  at' : Nat
/-- from place a on k bytes stand in a row, and no more -/
def RowAt (s : ByteArray) (a k : Nat) : Prop := a + k ≤ s.size ∧ (∀ j, j < k → inRow (bt s (a + j)) = true) ∧ (a + k < s.size → inRow (bt s (a + k)) = false)
theorem RowAt.unique {s : ByteArray} {a k m : Nat} (h : RowAt s a k) (h' : RowAt s a m) : k = m := by
  rcases Nat.lt_trichotomy k m with hlt | rfl | hlt
  · have h1 := h.2.2 (by have := h'.1; omega)
    have h2 := h'.2.1 k hlt
    rw [h1] at h2; cases h2
  · rfl
  · have h1 := h'.2.2 (by have := h.1; omega)
    have h2 := h.2.1 m hlt
    rw [h1] at h2; cases h2
theorem size_suffix {s : ByteArray} {a : Nat} : (s.extract a s.size).size = s.size - a := by rw [ByteArray.size_extract]; omega
theorem bt_suffix {s : ByteArray} {a i : Nat} (h : a + i < s.size) : bt (s.extract a s.size) i = bt s (a + i) := bt_extract s a s.size i (Nat.le_refl _) h
theorem rowAt_of {s : ByteArray} {a k : Nat} (ha : a ≤ s.size) (h : RowEnd (s.extract a s.size) k) : RowAt s a k := by
  obtain ⟨h1, h2, h3⟩ := h
  rw [size_suffix] at h1 h3
  refine ⟨by omega, fun j hj => ?_, fun hk => ?_⟩
  · rw [← bt_suffix (by omega)]; exact h2 j hj
  · rw [← bt_suffix (by omega)]; exact h3 (by omega)
theorem extract_suffix {s : ByteArray} {a k : Nat} (h : a + k ≤ s.size) : (s.extract a s.size).extract 0 k = s.extract a (a + k) := by
  rw [ByteArray.extract_extract, Nat.add_zero, Nat.min_eq_left h]

/-- the word at place a -/
def Wd (s : ByteArray) (a : Nat) (t : TD) : Prop :=
  t.at' = a ∧ a + t.text.size ≤ s.size ∧ t.text = s.extract a (a + t.text.size) ∧
  ((cls (bt s a) = 1 ∧ RowAt s a t.text.size ∧ okText t.text ∧ t.kind = 1 ∧ t.num = (dr t.text 0 t.text.size : Int)) ∨
   (cls (bt s a) = 2 ∧ RowAt s a t.text.size ∧ t.kind = kd t.text ∧ t.kind ≠ 0 ∧ t.num = 0) ∨
   (cls (bt s a) ≠ 1 ∧ cls (bt s a) ≠ 2 ∧ t.text = sgOf (s.extract a s.size) ∧ 0 < t.text.size ∧ t.kind = 4 ∧ t.num = 0))
/-- no word is at place a: the error -/
def Nw (s : ByteArray) (a : Nat) (e : Int) : Prop :=
  (cls (bt s a) = 1 ∧ (∃ k, RowAt s a k ∧ ¬ okText (s.extract a (a + k))) ∧ e = 12) ∨
  (cls (bt s a) = 2 ∧ (∃ k, RowAt s a k ∧ kd (s.extract a (a + k)) = 0) ∧ e = 30) ∨
  (cls (bt s a) ≠ 1 ∧ cls (bt s a) ≠ 2 ∧ (sgOf (s.extract a s.size)).size = 0 ∧ e = 30)

theorem size_mid {s : ByteArray} {a k : Nat} (h : a + k ≤ s.size) : (s.extract a (a + k)).size = k := by rw [ByteArray.size_extract]; omega
theorem bt_mid' {s : ByteArray} {a n i : Nat} (h : a + n ≤ s.size) (hi : i < n) : bt (s.extract a (a + n)) i = bt s (a + i) := bt_extract s a (a + n) i h (by omega)
theorem rowAt_pos {s : ByteArray} {a k : Nat} (h : RowAt s a k) (ha : a < s.size) (hc : cls (bt s a) = 1 ∨ cls (bt s a) = 2) : 0 < k := by
  rcases Nat.eq_zero_or_pos k with rfl | h0
  · have := h.2.2 (by omega)
    rw [Nat.add_zero] at this
    unfold inRow at this
    rw [decide_eq_false_iff_not] at this
    exact absurd (by omega) this
  · exact h0
theorem sgOf_pfx {s : ByteArray} (h : 0 < (sgOf s).size) : pfx s (sgOf s) = true := by
  unfold sgOf at h ⊢
  cases hq : signL.find? (pfx s) with
  | none => rw [hq] at h; exact absurd h (by decide)
  | some p => exact List.find?_some hq
theorem sgOf_le (s : ByteArray) : (sgOf s).size ≤ s.size := by
  rcases Nat.eq_zero_or_pos (sgOf s).size with h | h
  · omega
  · exact (pfx_iff.1 (sgOf_pfx h)).1
theorem sgOf_eq {s : ByteArray} (h : 0 < (sgOf s).size) : sgOf s = s.extract 0 (sgOf s).size := by
  have h1 := sgOf_pfx h
  unfold pfx at h1
  rw [Bool.and_eq_true, toList_iff] at h1
  exact h1.2.symm
theorem wd_size {s : ByteArray} {a : Nat} {t : TD} (h : Wd s a t) (ha : a < s.size) : 0 < t.text.size := by
  obtain ⟨_, _, _, ⟨hc, hr, _⟩ | ⟨hc, hr, _⟩ | ⟨_, _, _, h0, _⟩⟩ := h
  · exact rowAt_pos hr ha (.inl hc)
  · exact rowAt_pos hr ha (.inr hc)
  · exact h0

/-- one of both is at a place, and just one -/
theorem wd_unique {s : ByteArray} {a : Nat} {t u : TD} (h : Wd s a t) (h' : Wd s a u) : t = u := by
  obtain ⟨a1, _, e1, h1⟩ := h
  obtain ⟨a2, _, e2, h2⟩ := h'
  have key : t.text = u.text → t.kind = u.kind → t.num = u.num → t = u := by
    intro h3 h4 h5
    cases t; cases u
    simp only at *
    rw [h3, h4, h5, a1, a2]
  rcases h1 with ⟨c1, r1, o1, k1, n1⟩ | ⟨c1, r1, k1, o1, n1⟩ | ⟨c1, d1, x1, o1, k1, n1⟩ <;> rcases h2 with ⟨c2, r2, o2, k2, n2⟩ | ⟨c2, r2, k2, o2, n2⟩ | ⟨c2, d2, x2, o2, k2, n2⟩
  all_goals first
    | (exfalso; omega)
    | (have hs := r1.unique r2
       have ht : t.text = u.text := by rw [e1, e2, hs]
       refine key ht ?_ ?_
       · first | (rw [k1, k2]; done) | rw [k1, k2, ht]
       · first | (rw [n1, n2]; done) | rw [n1, n2, ht])
    | exact key (by rw [x1, x2]) (by rw [k1, k2]) (by rw [n1, n2])
theorem nw_wd {s : ByteArray} {a : Nat} {t : TD} {e : Int} (h : Wd s a t) (h' : Nw s a e) : False := by
  obtain ⟨a1, _, e1, h1⟩ := h
  rcases h1 with ⟨c1, r1, o1, k1, n1⟩ | ⟨c1, r1, k1, o1, n1⟩ | ⟨c1, d1, x1, o1, k1, n1⟩ <;> rcases h' with ⟨c2, ⟨k, r2, o2⟩, _⟩ | ⟨c2, ⟨k, r2, o2⟩, _⟩ | ⟨c2, d2, x2, _⟩
  all_goals first
    | (exfalso; omega)
    | (have hs := r1.unique r2
       rw [← hs, ← e1] at o2
       first | exact o2 o1 | exact o1 (k1.trans o2))
    | (rw [x1] at o1; omega)
theorem nw_unique {s : ByteArray} {a : Nat} {e f : Int} (h : Nw s a e) (h' : Nw s a f) : e = f := by
  rcases h with ⟨c1, _, k1⟩ | ⟨c1, _, k1⟩ | ⟨c1, d1, x1, k1⟩ <;> rcases h' with ⟨c2, _, k2⟩ | ⟨c2, _, k2⟩ | ⟨c2, d2, x2, k2⟩ <;> first | (exfalso; omega) | (rw [k1, k2])
end Go.Proofs.YtgpaajolcpgeaaaGreatDoor

namespace Go.Proofs.YtgpaajolcpgeaaaGreatDoor
open Go.RowKit

theorem below_tok {w wb w' : World} {r : Nat} (b0 : Below w.heap.size w wb) (hr : w.heap.size ≤ r) (k : Below wb.heap.size wb w') (u0 u1 u2 u3 u4 : Value) : Below w.heap.size w (tokSet w' r u0 u1 u2 u3 u4) :=
 (grow_step k b0).trans ((tok_only _ _ _ _ _ _ _).below hr)
theorem out_tok {w wb w' : World} {r : Nat} (b0 : Below w.heap.size w wb) (hr : w.heap.size ≤ r) (hrb : r < wb.heap.size) (u0 u1 u2 u3 u4 : Value) {ad : Option Addr} {len cap : Nat} {zs : List Int} (ho : Out wb w' ad len cap zs) : Out w (tokSet w' r u0 u1 u2 u3 u4) ad len cap zs :=
 (ho.outer b0).keep (below_tok b0 hr ho.1 _ _ _ _ _) (fun b hb => (tok_only _ _ _ _ _ _ _).block b (fun e => by have := (ho.lt hb).1; omega))
theorem out_non {w w' : World} (h : Below w.heap.size w w') : Out w w' none 0 0 [] := ⟨h, .inl ⟨rfl, rfl, rfl, rfl⟩⟩

theorem kd_pos {s : ByteArray} (h : kd s ≠ 0) : 0 < kd s := by
 unfold kd at *
 split
 ·decide
 ·split
  ·rename_i h1 h2; rw [if_neg h1, if_pos h2] at h; exact absurd rfl h
  ·decide
set_option maxRecDepth 100000 in
set_option maxHeartbeats 1600000 in
theorem wordAt_any (s : ByteArray) (a : Nat) (w : World) (hs : s.size ≤ 1099511627776) (ha : a < s.size) (hS : Sgn w) :
  Calls Tryz.prog 109 #[.string s, .int .i64 a] w fun e w' =>
   (∃ t ad len cap zs, e = .returned (.tuple #[.agg #[.int .i64 t.kind, .string t.text, .bool false, .slice ad len cap, .int .i64 a], .int .i64 0]) ∧ Wd s a t ∧ Out w w' ad len cap zs ∧ Canon zs ∧ val zs = t.num ∧ len ≤ s.size) ∨
   (∃ x, e = .returned (.tuple #[.agg #[.int .i64 0, .string ⟨#[]⟩, .bool false, .slice none 0 0, .int .i64 0], .int .i64 x]) ∧ Nw s a x ∧ Below w.heap.size w w') := by
 have hb := bt_lt s a
 have he := bt_eq s a ha
 have hz : (s.extract a s.size).size = s.size - a := size_suffix
 go_enter Tryz.func109, Tryz.ntmps109
 go_wp2_with fail
 have y := tb_new w (.int .i64 0) (.string ⟨#[]⟩) (.bool false) (.slice none 0 0) (.int .i64 0)
 have b0 := below_alloc w (.cells #[.int .i64 0, .string ⟨#[]⟩, .bool false, .slice none 0 0, .int .i64 0] 119)
 replace hS := hS.below b0
 generalize w.alloc (.cells #[.int .i64 0, .string ⟨#[]⟩, .bool false, .slice none 0 0, .int .i64 0] 119) = wb at *
 have hlt := y.lt
 generalize hr : w.heap.size = r at y hlt
 have hle : w.heap.size ≤ r := by rw [hr]; exact Nat.le_refl _
 replace hr := hide hr
 refine (lookAt_n ((s[a]'ha).toNat : Int) (by omega) (by omega) wb).mono ?_
 rintro e w' ⟨rfl, rfl⟩
 rw [← he]
 have hc := cls_bd (bt s a)
 by_cases h1 : cls (bt s a) = 1
 ·have H1 := hide h1
  rw [h1]
  clear h1
  go_wp2_with fail
  refine (rowOf_n (s.extract a s.size) wb (by omega)).mono ?_
  rintro e w' ⟨k, hk, rfl, rfl⟩
  have hra := rowAt_of (by omega) hk
  have hkl := hra.1
  have hkz : (s.extract a (a + k)).size = k := size_mid hkl
  rw [extract_suffix hkl]
  clear hk
  by_cases hok : okText (s.extract a (a + k))
  ·go_wp2_with fail
   refine (number_yes (s.extract a (a + k)) a wb hok (by omega)).mono ?_
   rintro e w1 ⟨ad, len, cap, zs, rfl, ho, hcn, hv, hl⟩
   have y' := y.below ho.1
   have y0 := y'.c0
   have y1 := y'.c1
   have y2 := y'.c2
   have y3 := y'.c3
   have y4 := y'.c4
   have z0 := y'.f 0
   have z1 := y'.f 1
   have z2 := y'.f 2
   have z3 := y'.f 3
   have z4 := y'.f 4
   go_wp2
   refine bodyPost_ret (results_ct' rfl _ _ r 119 _ (0, 0) _ rfl (tb_fin y' _ _ _ _ _) Tryz.underlying119 rfl (by kernel_rfl)) rfl ?_
   exact .inl ⟨⟨1, s.extract a (a + k), dr (s.extract a (a + k)) 0 (s.extract a (a + k)).size, a⟩, ad, len, cap, zs, by simp, ⟨rfl, by rw [hkz]; exact hkl, by rw [hkz], .inl ⟨H1.out, by rw [hkz]; exact hra, hok, rfl, rfl⟩⟩, out_tok b0 hle hlt _ _ _ _ _ ho, hcn, hv, by omega⟩
  ·go_wp2_with fail
   refine (number_no (s.extract a (a + k)) a wb hok (by omega)).mono ?_
   rintro e w1 ⟨rfl, ho⟩
   have y' := y.below ho
   have y0 := y'.c0
   have y1 := y'.c1
   have y2 := y'.c2
   have y3 := y'.c3
   have y4 := y'.c4
   have z0 := y'.f 0
   have z1 := y'.f 1
   have z2 := y'.f 2
   have z3 := y'.f 3
   have z4 := y'.f 4
   go_wp2
   refine bodyPost_ret (results_ct' rfl _ _ r 119 _ (0, 0) _ rfl (tb_fin y' _ _ _ _ _) Tryz.underlying119 rfl (by kernel_rfl)) rfl ?_
   exact .inr ⟨12, by simp, .inl ⟨H1.out, ⟨k, hra, hok⟩, rfl⟩, below_tok b0 hle ho _ _ _ _ _⟩
 ·by_cases h2 : cls (bt s a) = 2
  ·have H2 := hide h2
   rw [h2]
   clear h2 h1
   go_wp2_with fail
   refine (rowOf_n (s.extract a s.size) wb (by omega)).mono ?_
   rintro e w' ⟨k, hk, rfl, rfl⟩
   have hra := rowAt_of (by omega) hk
   have hkl := hra.1
   have hkz : (s.extract a (a + k)).size = k := size_mid hkl
   rw [extract_suffix hkl]
   clear hk
   go_wp2_with fail
   refine (kindOf_n (s.extract a (a + k)) wb (by omega)).mono ?_
   rintro e w' ⟨rfl, rfl⟩
   have hk0 := rowAt_pos hra ha (.inr H2.out)
   by_cases hkd : kd (s.extract a (a + k)) = 0
   ·have HK := hide hkd
    rw [hkd]
    clear hkd
    go_wp2_with fail
    refine (plain_no 0 (s.extract a (a + k)) a wb (.inl rfl)).mono ?_
    rintro e w1 ⟨rfl, ho⟩
    have y' := y.below ho
    have y0 := y'.c0
    have y1 := y'.c1
    have y2 := y'.c2
    have y3 := y'.c3
    have y4 := y'.c4
    have z0 := y'.f 0
    have z1 := y'.f 1
    have z2 := y'.f 2
    have z3 := y'.f 3
    have z4 := y'.f 4
    go_wp2
    refine bodyPost_ret (results_ct' rfl _ _ r 119 _ (0, 0) _ rfl (tb_fin y' _ _ _ _ _) Tryz.underlying119 rfl (by kernel_rfl)) rfl ?_
    exact .inr ⟨30, by simp, .inr (.inl ⟨H2.out, ⟨k, hra, HK.out⟩, rfl⟩), below_tok b0 hle ho _ _ _ _ _⟩
   ·have HK := hide hkd
    have hkp := kd_pos hkd
    clear hkd
    go_wp2_with fail
    refine (plain_yes _ (s.extract a (a + k)) a wb hkp (by omega)).mono ?_
    rintro e w1 ⟨rfl, ho⟩
    have y' := y.below ho
    have y0 := y'.c0
    have y1 := y'.c1
    have y2 := y'.c2
    have y3 := y'.c3
    have y4 := y'.c4
    have z0 := y'.f 0
    have z1 := y'.f 1
    have z2 := y'.f 2
    have z3 := y'.f 3
    have z4 := y'.f 4
    go_wp2
    refine bodyPost_ret (results_ct' rfl _ _ r 119 _ (0, 0) _ rfl (tb_fin y' _ _ _ _ _) Tryz.underlying119 rfl (by kernel_rfl)) rfl ?_
    exact .inl ⟨⟨kd (s.extract a (a + k)), s.extract a (a + k), 0, a⟩, none, 0, 0, [], by simp, ⟨rfl, by rw [hkz]; exact hkl, by rw [hkz], .inr (.inl ⟨H2.out, by rw [hkz]; exact hra, rfl, HK.out, rfl⟩)⟩, out_non (below_tok b0 hle ho _ _ _ _ _), canon_nil, rfl, by omega⟩
  ·have H1 := hide h1
   have H2 := hide h2
   have n1 : (cls (bt s a) == 1) = false := by rw [beq_eq_false_iff_ne]; exact h1
   have n2 : (cls (bt s a) == 2) = false := by rw [beq_eq_false_iff_ne]; exact h2
   clear h1 h2
   generalize hcc : cls (bt s a) = c at *
   replace hcc := hide hcc
   go_wp2_with fail
   refine (signOf_n (s.extract a s.size) wb (by omega) hS).mono ?_
   rintro e w' ⟨rfl, rfl⟩
   have hsl := sgOf_le (s.extract a s.size)
   by_cases hg : 0 < (sgOf (s.extract a s.size)).size
   ·have hge := sgOf_eq hg
    rw [extract_suffix (by omega)] at hge
    replace hge := hide hge
    go_wp2_with fail
    refine (plain_yes 4 (sgOf (s.extract a s.size)) a wb (by decide) hg).mono ?_
    rintro e w1 ⟨rfl, ho⟩
    have y' := y.below ho
    have y0 := y'.c0
    have y1 := y'.c1
    have y2 := y'.c2
    have y3 := y'.c3
    have y4 := y'.c4
    have z0 := y'.f 0
    have z1 := y'.f 1
    have z2 := y'.f 2
    have z3 := y'.f 3
    have z4 := y'.f 4
    go_wp2
    refine bodyPost_ret (results_ct' rfl _ _ r 119 _ (0, 0) _ rfl (tb_fin y' _ _ _ _ _) Tryz.underlying119 rfl (by kernel_rfl)) rfl ?_
    exact .inl ⟨⟨4, sgOf (s.extract a s.size), 0, a⟩, none, 0, 0, [], by simp, ⟨rfl, by show a + (sgOf (s.extract a s.size)).size ≤ s.size; omega, hge.out, .inr (.inr ⟨by rw [hcc.out]; exact H1.out, by rw [hcc.out]; exact H2.out, rfl, hg, rfl, rfl⟩)⟩, out_non (below_tok b0 hle ho _ _ _ _ _), canon_nil, rfl, by omega⟩
   ·go_wp2_with fail
    refine (plain_no 4 (sgOf (s.extract a s.size)) a wb (.inr (by omega))).mono ?_
    rintro e w1 ⟨rfl, ho⟩
    have y' := y.below ho
    have y0 := y'.c0
    have y1 := y'.c1
    have y2 := y'.c2
    have y3 := y'.c3
    have y4 := y'.c4
    have z0 := y'.f 0
    have z1 := y'.f 1
    have z2 := y'.f 2
    have z3 := y'.f 3
    have z4 := y'.f 4
    go_wp2
    refine bodyPost_ret (results_ct' rfl _ _ r 119 _ (0, 0) _ rfl (tb_fin y' _ _ _ _ _) Tryz.underlying119 rfl (by kernel_rfl)) rfl ?_
    exact .inr ⟨30, by simp, .inr (.inr ⟨by rw [hcc.out]; exact H1.out, by rw [hcc.out]; exact H2.out, by omega, rfl⟩), below_tok b0 hle ho _ _ _ _ _⟩
end Go.Proofs.YtgpaajolcpgeaaaGreatDoor

namespace Go.Proofs.YtgpaajolcpgeaaaGreatDoor
open Go.RowKit

/-- from place a on a text has these words, and then this error (0: none), at that place -/
def LxL (s : ByteArray) : List TD → Nat → Int → Nat → Prop
 | [], a, e, p => (BlankEnd s a s.size ∧ e = 0 ∧ p = 0) ∨ ∃ k, BlankEnd s a k ∧ k < s.size ∧ Nw s k e ∧ p = k
 | t :: ts, a, e, p => ∃ k, BlankEnd s a k ∧ k < s.size ∧ Wd s k t ∧ LxL s ts (k + t.text.size) e p
def Lx (s : ByteArray) (a : Nat) (ts : List TD) (e : Int) (p : Nat) : Prop := LxL s ts a e p
theorem Lx.done {s : ByteArray} {a : Nat} (h : BlankEnd s a s.size) : Lx s a [] 0 0 := .inl ⟨h, rfl, rfl⟩
theorem Lx.bad {s : ByteArray} {a k : Nat} {e : Int} (h : BlankEnd s a k) (hk : k < s.size) (hn : Nw s k e) : Lx s a [] e k := .inr ⟨k, h, hk, hn, rfl⟩
theorem Lx.word {s : ByteArray} {a k : Nat} {t : TD} {ts : List TD} {e : Int} {p : Nat} (h : BlankEnd s a k) (hk : k < s.size) (hw : Wd s k t) (hr : Lx s (k + t.text.size) ts e p) : Lx s a (t :: ts) e p := ⟨k, h, hk, hw, hr⟩
theorem Lx.nil {s : ByteArray} {a : Nat} {e : Int} {p : Nat} (h : Lx s a [] e p) : (BlankEnd s a s.size ∧ e = 0 ∧ p = 0) ∨ ∃ k, BlankEnd s a k ∧ k < s.size ∧ Nw s k e ∧ p = k := h
theorem Lx.cons {s : ByteArray} {a : Nat} {t : TD} {ts : List TD} {e : Int} {p : Nat} (h : Lx s a (t :: ts) e p) : ∃ k, BlankEnd s a k ∧ k < s.size ∧ Wd s k t ∧ Lx s (k + t.text.size) ts e p := h

theorem blank_self {s : ByteArray} {a k : Nat} (h : BlankEnd s a k) : BlankEnd s k k := ⟨Nat.le_refl _, h.2.1, fun j h1 h2 => absurd h1 (by omega), h.2.2.2⟩
theorem blank_trans {s : ByteArray} {a k m : Nat} (h : BlankEnd s a k) (h' : BlankEnd s k m) : BlankEnd s a m := by
 obtain rfl := (blank_self h).unique h'
 exact h
theorem lx_skip {s : ByteArray} {a k : Nat} {ts : List TD} {e : Int} {p : Nat} (h : BlankEnd s a k) (hl : Lx s k ts e p) : Lx s a ts e p := by
 cases ts with
 | nil =>
  rcases hl.nil with ⟨h', rfl, rfl⟩ | ⟨k', h', hk, hn, rfl⟩
  ·exact .done (blank_trans h h')
  ·exact .bad (blank_trans h h') hk hn
 | cons t ts =>
  obtain ⟨k', h', hk, hw, hr⟩ := hl.cons
  exact .word (blank_trans h h') hk hw hr
theorem nw_ne {s : ByteArray} {a : Nat} {e : Int} (h : Nw s a e) : e = 12 ∨ e = 30 := by
 rcases h with ⟨_, _, h⟩ | ⟨_, _, h⟩ | ⟨_, _, _, h⟩ <;> omega
theorem lx_unique {s : ByteArray} {a : Nat} {ts us : List TD} {e f : Int} {p q : Nat} (h : Lx s a ts e p) (h' : Lx s a us f q) : ts = us ∧ e = f ∧ p = q := by
 induction ts generalizing a us f q with
 | nil =>
  rcases h.nil with ⟨h1, rfl, rfl⟩ | ⟨k1, h1, hk1, hn1, rfl⟩
  ·cases us with
   | nil =>
    rcases h'.nil with ⟨h2, rfl, rfl⟩ | ⟨k2, h2, hk, hn, rfl⟩
    ·exact ⟨rfl, rfl, rfl⟩
    ·have := h1.unique h2; omega
   | cons t us =>
    obtain ⟨k2, h2, hk, hw, hr⟩ := h'.cons
    have := h1.unique h2; omega
  ·cases us with
   | nil =>
    rcases h'.nil with ⟨h2, rfl, rfl⟩ | ⟨k2, h2, hk, hn, rfl⟩
    ·have := h1.unique h2; omega
    ·obtain rfl := h1.unique h2
     exact ⟨rfl, nw_unique hn1 hn, rfl⟩
   | cons t us =>
    obtain ⟨k2, h2, hk, hw, hr⟩ := h'.cons
    obtain rfl := h1.unique h2
    exact (nw_wd hw hn1).elim
 | cons t ts ih =>
  obtain ⟨k1, h1, hk1, hw1, hr1⟩ := h.cons
  cases us with
  | nil =>
   rcases h'.nil with ⟨h2, rfl, rfl⟩ | ⟨k2, h2, hk, hn, rfl⟩
   ·have := h1.unique h2; omega
   ·obtain rfl := h1.unique h2
    exact (nw_wd hw1 hn).elim
  | cons t' us =>
   obtain ⟨k2, h2, hk, hw, hr⟩ := h'.cons
   obtain rfl := h1.unique h2
   obtain rfl := wd_unique hw1 hw
   obtain ⟨rfl, rfl, rfl⟩ := ih hr1 hr
   exact ⟨rfl, rfl, rfl⟩
/-- these are a text's first words: what stands behind them, from a place on, is the rest -/
def Pfx (s : ByteArray) (ds : List TD) : Prop := ∃ a, a ≤ s.size ∧ ∀ ts x p, Lx s a ts x p → Lx s 0 (ds ++ ts) x p
/-- a text's words, and what is wrong -/
def Lxs (s : ByteArray) (ts : List TD) (e : Int) (p : Nat) : Prop := if 4096 < s.size then ts = [] ∧ e = 40 ∧ p = 0 else Lx s 0 ts e p
theorem lxs_unique {s : ByteArray} {ts us : List TD} {e f : Int} {p q : Nat} (h : Lxs s ts e p) (h' : Lxs s us f q) : ts = us ∧ e = f ∧ p = q := by
 unfold Lxs at h h'
 split at h
 ·rename_i hc
  rw [if_pos hc] at h'
  obtain ⟨rfl, rfl, rfl⟩ := h
  obtain ⟨rfl, rfl, rfl⟩ := h'
  exact ⟨rfl, rfl, rfl⟩
 ·rename_i hc
  rw [if_neg hc] at h'
  exact lx_unique h h'
theorem lx_zero {s : ByteArray} {a : Nat} {ts : List TD} {p : Nat} {e : Int} (h : Lx s a ts e p) : (e = 0 ∧ p = 0) ∨ (e = 12 ∨ e = 30) ∧ p < s.size := by
 induction ts generalizing a with
 | nil =>
  rcases h.nil with ⟨_, rfl, rfl⟩ | ⟨k, h, hk, hn, rfl⟩
  ·exact .inl ⟨rfl, rfl⟩
  ·exact .inr ⟨nw_ne hn, hk⟩
 | cons t ts ih =>
  obtain ⟨k, h, hk, hw, hr⟩ := h.cons
  exact ih hr
end Go.Proofs.YtgpaajolcpgeaaaGreatDoor

namespace Go.Proofs.YtgpaajolcpgeaaaGreatDoor
open Go.RowKit
namespace Sx

/-- what a tree has itself: its kind, its name, its names, its number's sign and limbs -/
structure Lab where
 k : Int
 nm : ByteArray
 nms : List ByteArray
 s : Bool
 xs : List Int
abbrev Tr := DataW Lab
/-- a tree of its label and its kids -/
def nd (l : Lab) (ks : List Tr) : Tr := .agg (.held l :: ks)
def lk (k : Int) : Lab := ⟨k, ⟨#[]⟩, [], false, []⟩
theorem nd_inj {l l' : Lab} {ks ks' : List Tr} (h : nd l ks = nd l' ks') : l = l' ∧ ks = ks' := by
 unfold nd at h
 injection h with h
 injection h with h1 h2
 injection h1 with h1
 exact ⟨h1, h2⟩
/-- the limbs of a number, the least first -/
def clF : Nat → Nat → List Int
 | 0, _ => []
 | f + 1, n => if n = 0 then [] else ((n % 4294967296 : Nat) : Int) :: clF f (n / 4294967296)
def cl (n : Int) : List Int := clF n.toNat n.toNat
/-- the words of the kinds -/
def wd : Nat → ByteArray
 | 3 => ⟨#[45]⟩
 | 4 => ⟨#[43]⟩
 | 5 => ⟨#[45]⟩
 | 6 => ⟨#[42]⟩
 | 7 => ⟨#[116, 114, 117, 101]⟩
 | 8 => ⟨#[102, 97, 108, 115, 101]⟩
 | 9 => ⟨#[60]⟩
 | 10 => ⟨#[60, 61]⟩
 | 11 => ⟨#[61]⟩
 | 12 => ⟨#[33, 61]⟩
 | 13 => ⟨#[62, 61]⟩
 | 14 => ⟨#[62]⟩
 | 15 => ⟨#[100, 105, 118, 105, 100, 101, 115]⟩
 | 16 => ⟨#[110, 111, 116]⟩
 | 17 => ⟨#[97, 110, 100]⟩
 | 18 => ⟨#[111, 114]⟩
 | 19 => ⟨#[105, 109, 112, 108, 105, 101, 115]⟩
 | 20 => ⟨#[105, 102, 102]⟩
 | 21 => ⟨#[115, 111, 109, 101]⟩
 | 22 => ⟨#[97, 108, 108]⟩
 | _ => ⟨#[]⟩
def opn : ByteArray := ⟨#[40]⟩
def cls' : ByteArray := ⟨#[41]⟩
def dot : ByteArray := ⟨#[46]⟩
/-- the next word's text, its kind -/
def hd : List TD → ByteArray
 | [] => ⟨#[]⟩
 | t :: _ => t.text
def hk : List TD → Int
 | [] => 0
 | t :: _ => t.kind
/-- which of the kinds a, a + 1 .. (so many) a word says; 0: none -/
def amo : Nat → Nat → ByteArray → Nat
 | _, 0, _ => 0
 | a, n + 1, s => if s = wd a then a else amo (a + 1) n s
/-- the error where reading can't go on -/
def bad (e : Nat) : List TD → Int × Nat
 | [] => (42, e)
 | t :: _ => (41, t.at')
abbrev Res := (Int × Nat) ⊕ (Tr × List TD)
def th (x : Option Res) (f : Tr → List TD → Option Res) : Option Res :=
 match x with
 | some (.inr (t, r)) => f t r
 | x => x
/-- the names ahead, and what is behind them -/
def nms : List TD → List ByteArray × List TD
 | [] => ([], [])
 | t :: ts => if t.kind = 2 then (t.text :: (nms ts).1, (nms ts).2) else ([], t :: ts)
/-- one tree of a row of kids; a kid alone is itself -/
def row (k : Int) : List Tr → Tr
 | [t] => t
 | ts => nd (lk k) ts
/-- THE GRAMMAR. Tags: 0 formula, 1 its loop, 2 implied, 3 ored, 4 its loop, 5 anded, 6 its loop, 7 notted, 8 primary, 9 total, 10 its loop, 11 operand. acc: what has been read; e: the text's end. -/
def Gr (e : Nat) : Nat → Nat → List Tr → List TD → Option Res
 | 0, _, _, _ => none
 | n + 1, 0, _, ts => th (Gr e n 2 [] ts) fun t r => Gr e n 1 [t] r
 | n + 1, 1, acc, ts => if hd ts = wd 20 then th (Gr e n 2 [] ts.tail) fun u r => Gr e n 1 [nd (lk 20) (acc ++ [u])] r else some (.inr (row 20 acc, ts))
 | n + 1, 2, _, ts => th (Gr e n 3 [] ts) fun t r => if hd r = wd 19 then th (Gr e n 2 [] r.tail) fun u q => some (.inr (nd (lk 19) [t, u], q)) else some (.inr (t, r))
 | n + 1, 3, _, ts => th (Gr e n 5 [] ts) fun t r => Gr e n 4 [t] r
 | n + 1, 4, acc, ts => if hd ts = wd 18 then th (Gr e n 5 [] ts.tail) fun u r => Gr e n 4 (acc ++ [u]) r else some (.inr (row 18 acc, ts))
 | n + 1, 5, _, ts => th (Gr e n 7 [] ts) fun t r => Gr e n 6 [t] r
 | n + 1, 6, acc, ts => if hd ts = wd 17 then th (Gr e n 7 [] ts.tail) fun u r => Gr e n 6 (acc ++ [u]) r else some (.inr (row 17 acc, ts))
 | n + 1, 7, _, ts =>
  if hd ts = wd 16 then th (Gr e n 7 [] ts.tail) fun t r => some (.inr (nd (lk 16) [t], r))
  else if amo 21 2 (hd ts) ≠ 0 then
   if (nms ts.tail).1 = [] ∨ hd (nms ts.tail).2 ≠ dot then some (.inl (bad e (nms ts.tail).2))
   else th (Gr e n 0 [] (nms ts.tail).2.tail) fun t r => some (.inr (nd ⟨amo 21 2 (hd ts), ⟨#[]⟩, (nms ts.tail).1, false, []⟩ [t], r))
  else Gr e n 8 [] ts
 | n + 1, 8, _, ts =>
  if amo 7 2 (hd ts) ≠ 0 then some (.inr (nd (lk (amo 7 2 (hd ts))) [], ts.tail))
  else if hd ts = opn then th (Gr e n 0 [] ts.tail) fun t r => if hd r = cls' then some (.inr (t, r.tail)) else some (.inl (bad e r))
  else if hk ts = 1 ∧ hd ts.tail = wd 15 then
   match ts with
   | [] => none
   | t :: _ => if t.num = 0 then some (.inl (11, t.at')) else th (Gr e n 9 [] ts.tail.tail) fun u r => some (.inr (nd ⟨15, ⟨#[]⟩, [], false, cl t.num⟩ [u], r))
  else th (Gr e n 9 [] ts) fun l r => if amo 9 6 (hd r) = 0 then some (.inl (bad e r)) else th (Gr e n 9 [] r.tail) fun u q => some (.inr (nd (lk (amo 9 6 (hd r))) [l, u], q))
 | n + 1, 9, _, ts => th (Gr e n 11 [] ts) fun t r => Gr e n 10 [t] r
 | n + 1, 10, acc, ts => if amo 4 2 (hd ts) ≠ 0 then th (Gr e n 11 [] ts.tail) fun u r => Gr e n 10 [nd (lk (amo 4 2 (hd ts))) (acc ++ [u])] r else some (.inr (row 4 acc, ts))
 | n + 1, _, _, ts =>
  if hd ts = wd 3 then th (Gr e n 11 [] ts.tail) fun t r => some (.inr (nd (lk 3) [t], r))
  else if hd ts = opn then th (Gr e n 9 [] ts.tail) fun t r => if hd r = cls' then some (.inr (t, r.tail)) else some (.inl (bad e r))
  else if hk ts = 1 then
   match ts with
   | [] => none
   | t :: r => if hd r = wd 6 then th (Gr e n 11 [] r.tail) fun u q => some (.inr (nd ⟨6, ⟨#[]⟩, [], false, cl t.num⟩ [u], q)) else some (.inr (nd ⟨1, ⟨#[]⟩, [], false, cl t.num⟩ [], r))
  else if hk ts = 2 then some (.inr (nd ⟨2, hd ts, [], false, []⟩ [], ts.tail))
  else some (.inl (bad e ts))
/-- what it told stays told with more steps -/
theorem th_mono {x y : Option Res} {f g : Tr → List TD → Option Res} (h1 : ∀ r, x = some r → y = some r) (h2 : ∀ t r q, f t r = some q → g t r = some q) : ∀ q, th x f = some q → th y g = some q := by
 intro q h
 cases x with
 | none => cases h
 | some r =>
  rw [h1 r rfl]
  cases r with
  | inl b => exact h
  | inr p => exact h2 _ _ _ h
end Sx
end Go.Proofs.YtgpaajolcpgeaaaGreatDoor

namespace Go.Proofs.YtgpaajolcpgeaaaGreatDoor
open Go.RowKit
namespace Sx

/-- a tree's kids, its label -/
def ksO : Tr → List Tr
 | .agg (_ :: ks) => ks
 | _ => []
def lbO : Tr → Lab
 | .agg (.held l :: _) => l
 | _ => lk 0
theorem ksO_nd (l : Lab) (ks : List Tr) : ksO (nd l ks) = ks := rfl
theorem lbO_nd (l : Lab) (ks : List Tr) : lbO (nd l ks) = l := rfl
/-- how many nodes there are in so many levels -/
def cntF : Nat → Tr → Nat
 | 0, _ => 0
 | f + 1, t => 1 + ((ksO t).map (cntF f)).sum
def cnL (f : Nat) (l : List Tr) : Nat := (l.map (cntF f)).sum
theorem cntF_succ (f : Nat) (t : Tr) : cntF (f + 1) t = 1 + cnL f (ksO t) := rfl
theorem cnL_cons (f : Nat) (t : Tr) (ts : List Tr) : cnL f (t :: ts) = cntF f t + cnL f ts := by simp [cnL]
theorem cnL_nil (f : Nat) : cnL f [] = 0 := rfl
theorem cnL_append (f : Nat) (a b : List Tr) : cnL f (a ++ b) = cnL f a + cnL f b := by simp [cnL]
theorem cnL_one (f : Nat) (t : Tr) : cnL f [t] = cntF f t := by simp [cnL]
theorem cnL1 (l : List Tr) : cnL 1 l = l.length := by
 induction l with
 | nil => rfl
 | cons t l ih =>
  have h0 : cnL 0 (ksO t) = 0 := by
   generalize ksO t = m
   induction m with
   | nil => rfl
   | cons u m ih => rw [cnL_cons, ih]; rfl
  rw [cnL_cons, ih, cntF_succ, h0, List.length_cons]
  omega
/-- no more than so many nodes -/
def Few4 (B : Nat) (t : Tr) : Prop := ∀ f, cntF f t ≤ B
/-- what stands so many levels below -/
def At4 : Nat → Tr → Tr → Prop
 | 0, t, u => u = t
 | n + 1, t, u => ∃ v, v ∈ ksO t ∧ At4 n v u
theorem at_step {n : Nat} : ∀ {t u : Tr}, At4 (n + 1) t u ↔ ∃ v, At4 n t v ∧ u ∈ ksO v := by
 induction n with
 | zero =>
  intro t u
  constructor
  ·rintro ⟨v, h, rfl⟩
   exact ⟨t, rfl, h⟩
  ·rintro ⟨v, rfl, h⟩
   exact ⟨u, h, rfl⟩
 | succ n ih =>
  intro t u
  constructor
  ·rintro ⟨v, h, h2⟩
   obtain ⟨x, h3, h4⟩ := ih.1 h2
   exact ⟨x, ⟨v, h, h3⟩, h4⟩
  ·rintro ⟨x, ⟨v, h, h3⟩, h4⟩
   exact ⟨v, h, ih.2 ⟨x, h3, h4⟩⟩
/-- there is something so many levels below -/
def Dp (n : Nat) (t : Tr) : Prop := ∃ u, At4 n t u
theorem dp_nd {n : Nat} {l : Lab} {ks : List Tr} : Dp (n + 1) (nd l ks) ↔ ∃ k, k ∈ ks ∧ Dp n k :=
 ⟨fun ⟨u, v, h, h2⟩ => ⟨v, h, u, h2⟩, fun ⟨v, h, u, h2⟩ => ⟨u, v, h, h2⟩⟩
/-- the lists of a level -/
structure Lvl (n : Nat) (t : Tr) (LL : List (List Tr)) : Prop where
 ne : ∀ L ∈ LL, L ≠ []
 sub : ∀ L ∈ LL, ∀ u ∈ L, At4 n t u
 all : ∀ u, At4 n t u → ∃ L ∈ LL, u ∈ L
 cnt : ∀ f, cnL f LL.flatten ≤ cntF (f + n) t
theorem lvl_zero (t : Tr) : Lvl 0 t [[t]] where
 ne := fun L h => by
  rw [List.mem_singleton] at h
  subst h
  exact List.cons_ne_nil _ _
 sub := fun L h u hu => by
  rw [List.mem_singleton] at h
  subst h
  exact List.mem_singleton.1 hu
 all := fun u h => ⟨[t], by simp, by rw [show u = t from h]; simp⟩
 cnt := fun f => by simp [cnL]
/-- the next level, so far as these trees tell -/
structure Nx (us : List Tr) (LL : List (List Tr)) : Prop where
 sub : ∀ L ∈ LL, L ≠ [] ∧ ∃ u ∈ us, ksO u = L
 all : ∀ u ∈ us, ksO u ≠ [] → ksO u ∈ LL
 cnt : ∀ f, cnL f LL.flatten + LL.length ≤ cnL (f + 1) us
theorem nx_nil : Nx [] [] := ⟨by simp, by simp, fun f => by simp [cnL]⟩
theorem Nx.skip {us : List Tr} {LL : List (List Tr)} (h : Nx us LL) {u : Tr} (hu : ksO u = [] ∨ ksO u ∈ LL) : Nx (us ++ [u]) LL where
 sub := fun L hL => ⟨(h.sub L hL).1, by
  obtain ⟨-, v, hv, e⟩ := h.sub L hL
  exact ⟨v, by simp [hv], e⟩⟩
 all := fun v hv hne => by
  rcases List.mem_append.1 hv with hv | hv
  ·exact h.all v hv hne
  ·obtain rfl := List.mem_singleton.1 hv
   exact hu.resolve_left hne
 cnt := fun f => by
  rw [cnL_append]
  have := h.cnt f
  omega
theorem Nx.put {us : List Tr} {LL : List (List Tr)} (h : Nx us LL) {u : Tr} (hu : ksO u ≠ []) : Nx (us ++ [u]) (LL ++ [ksO u]) where
 sub := fun L hL => by
  rcases List.mem_append.1 hL with hL | hL
  ·obtain ⟨h1, v, hv, e⟩ := h.sub L hL
   exact ⟨h1, v, by simp [hv], e⟩
  ·obtain rfl := List.mem_singleton.1 hL
   exact ⟨hu, u, by simp, rfl⟩
 all := fun v hv hne => by
  rcases List.mem_append.1 hv with hv | hv
  ·exact List.mem_append_left _ (h.all v hv hne)
  ·obtain rfl := List.mem_singleton.1 hv
   simp
 cnt := fun f => by
  have := h.cnt f
  rw [cnL_append, cnL_one, cntF_succ, List.flatten_append, cnL_append, List.length_append, List.length_singleton]
  simp only [List.flatten_cons, List.flatten_nil, List.append_nil]
  omega
theorem Lvl.next {n : Nat} {t : Tr} {LL LL' : List (List Tr)} (h : Lvl n t LL) (hx : Nx LL.flatten LL') : Lvl (n + 1) t LL' where
 ne := fun L hL => (hx.sub L hL).1
 sub := fun L hL u hu => by
  obtain ⟨-, v, hv, rfl⟩ := hx.sub L hL
  obtain ⟨L0, h0, h1⟩ := List.mem_flatten.1 hv
  exact at_step.2 ⟨v, h.sub L0 h0 v h1, hu⟩
 all := fun u hu => by
  obtain ⟨v, hv, hm⟩ := at_step.1 hu
  obtain ⟨L0, h0, h1⟩ := h.all v hv
  exact ⟨ksO v, hx.all v (List.mem_flatten.2 ⟨L0, h0, h1⟩) (List.ne_nil_of_mem hm), hm⟩
 cnt := fun f => by
  have h1 := hx.cnt f
  have h2 := h.cnt (f + 1)
  rw [show f + (n + 1) = f + 1 + n by omega]
  omega
theorem Lvl.deep {n : Nat} {t : Tr} {LL : List (List Tr)} (h : Lvl n t LL) : LL ≠ [] ↔ Dp n t := by
 constructor
 ·intro hne
  obtain ⟨L, hL⟩ := List.exists_mem_of_ne_nil _ hne
  obtain ⟨u, hu⟩ := List.exists_mem_of_ne_nil _ (h.ne L hL)
  exact ⟨u, h.sub L hL u hu⟩
 ·rintro ⟨u, hu⟩ rfl
  obtain ⟨L, hL, -⟩ := h.all u hu
  simp at hL
end Sx
end Go.Proofs.YtgpaajolcpgeaaaGreatDoor

namespace Go.Proofs.YtgpaajolcpgeaaaGreatDoor
open Go.RowKit

theorem len32_lay (x : Int) (w : World) (h0 : 0 ≤ x) (h1 : x ≤ 4294967295) :
  Calls Tryz.prog 122 #[.int .u32 x] w fun e w' => e = .returned (.int .i64 (Lib.bitLen x.toNat)) ∧ w' = w := Any.bits_Len32 Tryz.lays128 x w h0 h1

theorem bitAux_spec (f : Nat) : ∀ x : Nat, x < 2 ^ f → x < 2 ^ Lib.bitLenAux f x ∧ (x ≠ 0 → 0 < Lib.bitLenAux f x ∧ 2 ^ (Lib.bitLenAux f x - 1) ≤ x) := by
 induction f with
 | zero => intro x hx; simp at hx; subst hx; simp [Lib.bitLenAux]
 | succ f ih =>
  intro x hx
  unfold Lib.bitLenAux
  by_cases h : x = 0
  ·subst h; simp
  ·rw [if_neg h]
   obtain ⟨h1, h2⟩ := ih (x / 2) (by rw [Nat.pow_succ] at hx; omega)
   refine ⟨?_, fun _ => ⟨by omega, ?_⟩⟩
   ·rw [Nat.add_comm, Nat.pow_succ]; omega
   ·rw [Nat.add_sub_cancel_left]
    by_cases h3 : x / 2 = 0
    ·have e : Lib.bitLenAux f (x / 2) = 0 := by rw [h3]; cases f <;> simp [Lib.bitLenAux]
     rw [e]; simp; omega
    ·obtain ⟨h4, h5⟩ := h2 h3
     obtain ⟨g, hg⟩ : ∃ g, Lib.bitLenAux f (x / 2) = g + 1 := ⟨_, (Nat.succ_pred_eq_of_pos h4).symm⟩
     rw [hg] at h5 ⊢
     rw [Nat.add_sub_cancel] at h5
     rw [Nat.pow_succ]
     omega

theorem bitLen_spec (x : Nat) (hx : x < 4294967296) : x < 2 ^ Lib.bitLen x ∧ (x ≠ 0 → 0 < Lib.bitLen x ∧ 2 ^ (Lib.bitLen x - 1) ≤ x) :=
 bitAux_spec 64 x (Nat.lt_of_lt_of_le hx (by decide))

theorem bitLen_le32 (x : Nat) (hx : x < 4294967296) : Lib.bitLen x ≤ 32 := by
 by_cases h : x = 0
 ·subst h; decide
 ·obtain ⟨_, h2⟩ := bitLen_spec x hx
  obtain ⟨h3, h4⟩ := h2 h
  rcases Nat.lt_or_ge 32 (Lib.bitLen x) with h5 | h5
  ·have : 2 ^ 32 ≤ 2 ^ (Lib.bitLen x - 1) := Nat.pow_le_pow_right (by decide) (by omega)
   have e : (2 : Nat) ^ 32 = 4294967296 := by decide
   omega
  ·exact h5

/-- how many bits a canonical list has -/
def bitsL (X : List Int) : Nat := if X.length = 0 then 0 else 32 * (X.length - 1) + Lib.bitLen (lz X (X.length - 1)).toNat

set_option maxRecDepth 100000 in
set_option maxHeartbeats 800000 in
theorem bits_any {a1 : Option Addr} {l1 c1 : Nat} {xs : List Int} {w : World} (h1 : Rd w a1 l1 c1 xs) (hl : l1 ≤ 1099511627776) :
  Calls Tryz.prog 85 #[.slice a1 l1 c1] w fun e w' => e = .returned (.int .i64 (bitsL (trim xs))) ∧ w = w' := by
 have t1 := h1.trim
 have hb1 := tl_le xs l1
 have hL := t1.2.2.2.1
 generalize hX : trim xs = X at *
 clear hX
 generalize hn : tl xs l1 = n1 at *
 have HN := hide hn
 clear hn
 have hXl : X.length = n1 := t1.1
 by_cases h0 : n1 = 0
 ·subst h0
  have hbl := hide (show bitsL X = 0 from by unfold bitsL; rw [if_pos hXl])
  clear hXl
  go_enter Tryz.func85, Tryz.ntmps85
  go_wp2_with fail
  refine (bare_any h1).mono ?_
  rintro e w' ⟨rfl, rfl⟩
  rw [unhide HN]
  go_wp2_with fail
  go_ret
  rw [unhide hbl]
  exact ⟨rfl, rfl⟩
 ·obtain ⟨b, off, rfl, g⟩ := t1.some (by omega)
  obtain ⟨m, rfl⟩ : ∃ m, n1 = m + 1 := ⟨n1 - 1, by omega⟩
  have hbl := hide (show bitsL X = 32 * m + Lib.bitLen (lz X m).toNat from by unfold bitsL; rw [hXl, if_neg (by omega)]; rfl)
  have gm := g m (by omega)
  have hbd := lz_bd hL m
  have h32 : Lib.bitLen (lz X m).toNat ≤ 32 := bitLen_le32 _ (by omega)
  have hne : (((m : Int) + 1) == 0) = false := by rw [beq_eq_false_iff_ne]; omega
  clear hXl h0 g
  go_enter Tryz.func85, Tryz.ntmps85
  go_wp2_with fail
  refine (bare_any h1).mono ?_
  rintro e w' ⟨rfl, rfl⟩
  rw [unhide HN]
  go_wp2_with fail
  refine (len32_lay (lz X m) w hbd.1 (by omega)).mono ?_
  rintro e w' ⟨rfl, hw⟩
  have HW := hide hw.symm
  clear hw
  go_wp2_with fail
  go_ret
  rw [unhide hbl]
  exact ⟨ret_int (by omega), unhide HW⟩

/-- 0 bits: the number 0 -/
theorem bitsL_zero {X : List Int} (h : Canon X) : bitsL X = 0 ↔ val X = 0 := by
 rw [canon_zero h]
 constructor
 ·intro hb
  unfold bitsL at hb
  split at hb
  ·exact List.eq_nil_of_length_eq_zero (by assumption)
  ·rename_i h0
   have h1 := h.2 (by omega)
   have h2 := lz_bd h.1 (X.length - 1)
   obtain ⟨_, h3⟩ := bitLen_spec (lz X (X.length - 1)).toNat (by omega)
   have := (h3 (by omega)).1
   omega
 ·rintro rfl; rfl

theorem bits_n {a1 : Option Addr} {l1 c1 : Nat} {n : Int} {w : World} (h1 : Nm w a1 l1 c1 n) (hl : l1 ≤ 1099511627776) :
  Calls Tryz.prog 85 #[.slice a1 l1 c1] w fun e w' => ∃ k : Nat, e = .returned (.int .i64 k) ∧ (k = 0 ↔ n = 0) ∧ Below w.heap.size w w' := by
 obtain ⟨xs, h1, rfl⟩ := h1
 refine (bits_any h1 hl).mono ?_
 rintro e w' ⟨rfl, rfl⟩
 refine ⟨_, rfl, ?_, Below.refl _ _⟩
 rw [bitsL_zero (canon_trim h1.2.2.2.1), val_trim]
end Go.Proofs.YtgpaajolcpgeaaaGreatDoor

namespace Go.Proofs.YtgpaajolcpgeaaaGreatDoor
open Go.RowKit

end Go.Proofs.YtgpaajolcpgeaaaGreatDoor

namespace Go.Proofs.YtgpaajolcpgeaaaGreatDoor
open Go.RowKit

end Go.Proofs.YtgpaajolcpgeaaaGreatDoor

namespace Go.Proofs.YtgpaajolcpgeaaaGreatDoor
open Go.RowKit
theorem Cn.len {w : World} {ad : Option Addr} {len cap : Nat} {n : Int} (h : Cn w ad len cap n) : n = 0 ↔ len = 0 := by
 obtain ⟨zs, h1, h2, rfl⟩ := h
 rw [canon_zero h2]
 constructor
 ·rintro rfl; exact h1.1.symm
 ·intro h; exact List.eq_nil_of_length_eq_zero (h1.1.trans h)

end Go.Proofs.YtgpaajolcpgeaaaGreatDoor

namespace Go.Proofs.YtgpaajolcpgeaaaGreatDoor
open Go.RowKit

/-- the number of a list of digits -/
def vf : List UInt8 → Nat
 | [] => 0
 | c :: l => (c.toNat - 48) * 10 ^ l.length + vf l

/-- digits alone -/
def Dig (l : List UInt8) : Prop := ∀ c ∈ l, 48 ≤ c.toNat ∧ c.toNat ≤ 57

theorem vf_snoc (l : List UInt8) (c : UInt8) : vf (l ++ [c]) = vf l * 10 + (c.toNat - 48) := by
 induction l with
 | nil => simp [vf]
 | cons x l ih =>
  simp only [List.cons_append, vf, ih, List.length_append, List.length_singleton, Nat.pow_succ]
  rw [Nat.add_mul, Nat.mul_assoc]
  omega

theorem bt_list (l : List UInt8) (i : Nat) : bt ⟨l.toArray⟩ i = (l.getD i 0).toNat := by
 unfold bt
 simp

theorem dr_vf (l : List UInt8) : dr ⟨l.toArray⟩ 0 l.length = vf l := by
 have key : ∀ (m k : Nat) (p r : List UInt8), l = p ++ r → p.length = m → r.length = k → dr ⟨l.toArray⟩ m k = vf r := by
  intro m k
  induction k generalizing m with
  | zero => intro p r _ _ hr; rw [List.eq_nil_of_length_eq_zero hr]; rfl
  | succ k ih =>
   intro p r hl hp hr
   cases r with
   | nil => simp at hr
   | cons c r =>
    have hr' : r.length = k := by simpa using hr
    have h1 := ih (m + 1) (p ++ [c]) r (by rw [hl]; simp) (by simp [hp]) hr'
    rw [show k + 1 = 1 + k from by omega, dr_add, h1]
    simp only [dr, vf, Nat.zero_mul, Nat.zero_add, Nat.add_zero, hr']
    rw [bt_list]
    have : l.getD m 0 = c := by rw [hl, ← hp]; simp [List.getD]
    rw [this]
 exact key 0 l.length [] l rfl rfl rfl

theorem dec_facts (n : Nat) : Dig (Lib.decDigits n) ∧ vf (Lib.decDigits n) = n ∧ 0 < (Lib.decDigits n).length ∧ (0 < n → 10 ^ ((Lib.decDigits n).length - 1) ≤ n ∧ ((Lib.decDigits n).getD 0 0).toNat ≠ 48) := by
 induction n using Nat.strongRecOn with
 | _ n ih =>
  have hc : ∀ d : Nat, d < 10 → (UInt8.ofNat (48 + d)).toNat = 48 + d := fun d hd => by
   rw [UInt8.toNat_ofNat']; omega
  by_cases h : n < 10
  ·rw [dec_small n h]
   have h1 := hc n h
   refine ⟨fun c hcm => ?_, ?_, by simp, fun hp => ⟨by simp; omega, ?_⟩⟩
   ·rw [List.mem_singleton.1 hcm, h1]; omega
   ·simp only [vf, h1, List.length_nil, Nat.pow_zero]; omega
   ·simp only [List.getD_cons_zero, h1]; omega
  ·obtain ⟨i1, i2, i3, i4⟩ := ih (n / 10) (by omega)
   obtain ⟨i5, i6⟩ := i4 (by omega)
   have h1 := hc (n % 10) (by omega)
   rw [dec_step n h]
   refine ⟨fun c hcm => ?_, ?_, by simp, fun hp => ⟨?_, ?_⟩⟩
   ·rcases List.mem_append.1 hcm with hm | hm
    ·exact i1 c hm
    ·rw [List.mem_singleton.1 hm, h1]; omega
   ·rw [vf_snoc, i2, h1]; omega
   ·rw [List.length_append, List.length_singleton, Nat.add_sub_cancel]
    obtain ⟨k, hk⟩ : ∃ k, (Lib.decDigits (n / 10)).length = k + 1 := ⟨_, (Nat.succ_pred_eq_of_pos i3).symm⟩
    rw [hk] at i5 ⊢
    rw [Nat.add_sub_cancel] at i5
    rw [Nat.pow_succ]
    omega
   ·cases hq : Lib.decDigits (n / 10) with
    | nil => rw [hq] at i3; simp at i3
    | cons x r => rw [hq] at i6; simpa using i6

theorem size_list' (l : List UInt8) : (⟨l.toArray⟩ : ByteArray).size = l.length := by
 show l.toArray.size = _
 simp

theorem dec_ok (n : Nat) : okText ⟨(Lib.decDigits n).toArray⟩ := by
 obtain ⟨h1, h2, h3, h4⟩ := dec_facts n
 refine ⟨by rw [size_list']; exact h3, fun h => ?_, fun i hi => ?_⟩
 ·rw [size_list', bt_list] at h
  have hp : 0 < n := by
   rcases Nat.eq_zero_or_pos n with h0 | h0
   ·subst h0; rw [dec_small 0 (by decide)] at h; simp at h
   ·exact h0
  exact (h4 hp).2 h.2
 ·rw [size_list'] at hi
  rw [bt_list]
  have e : (Lib.decDigits n).getD i 0 = (Lib.decDigits n)[i] := by simp [List.getD, hi]
  rw [e]
  exact h1 _ (List.getElem_mem hi)

theorem dec_dr (n : Nat) : dr ⟨(Lib.decDigits n).toArray⟩ 0 (⟨(Lib.decDigits n).toArray⟩ : ByteArray).size = n := by
 rw [size_list', dr_vf]
 exact (dec_facts n).2.1

end Go.Proofs.YtgpaajolcpgeaaaGreatDoor
