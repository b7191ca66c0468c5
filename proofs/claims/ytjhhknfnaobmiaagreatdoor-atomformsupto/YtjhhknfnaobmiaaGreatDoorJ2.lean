/-
  Several texts in one: T2, T3, T4, T5.
-/
import Derived.Test.YtjhhknfnaobmiaaGreatDoorT1
import Derived.Test.YtjhhknfnaobmiaaGreatDoorDec
import Derived.Deep.LoopGhost
namespace Go.Proofs.YtjhhknfnaobmiaaGreatDoor
open Go.RowKit

/-- divideByLimb on an answer of the call's own -/
theorem divl_out {w0 w : World} {ad : Option Addr} {n cap : Nat} {X : List Int} {d : Int} (h : Out w0 w ad n cap X) (hbig : n ≤ 1099511627776) (hd0 : 0 < d) (hd1 : d < 4294967296) :
  Calls Tryz.prog 151 #[.slice ad n cap, .int .u32 d] w fun e w' => ∃ Y, e = .returned (.int .u32 (val X % d)) ∧ Out w0 w' ad n cap Y ∧ val Y = val X / d ∧ w'.heap.size = w.heap.size ∧ (∀ k, blk ad ≠ some k → w'.heap[k]? = w.heap[k]?) := by
 obtain ⟨hB, ⟨rfl, rfl, rfl, rfl⟩ | ⟨b, zs, rfl, hb, hr, hlz, hzl, hle, hm, rfl⟩⟩ := h
 ·refine (divl_nil d w).mono ?_
  rintro e w' ⟨rfl, rfl⟩
  refine ⟨[], ret_int ?_, ⟨hB, .inl ⟨rfl, rfl, rfl, rfl⟩⟩, ?_, rfl, fun _ _ => rfl⟩
  ·show 0 = (0 : Int) % d
   simp
  ·show 0 = (0 : Int) / d
   simp
 ·refine (divl_row (len := n) (cap := cap) hr hlz (by omega) hbig hd0 hd1).mono ?_
  rintro e w' ⟨zk, rfl, hrk, hlk, hzkl, hsame, hvk, honly⟩
  refine ⟨zk.take n, ret_int (by rw [val_take _ _ (by omega)]), ⟨hB.trans (honly.below hb), .inr ⟨b, zk, rfl, hb, hrk, hlk, by omega, hle, hm, rfl⟩⟩, by rw [val_take _ _ (by omega), val_take _ _ (by omega)]; exact hvk, honly.size, fun k hk => honly.block k (fun e => hk (by simp [blk, e]))⟩

/-- bare of an answer of the call's own -/
theorem bare_out {w0 w : World} {ad : Option Addr} {n cap : Nat} {X : List Int} (h : Out w0 w ad n cap X) :
  Calls Tryz.prog 124 #[.slice ad n cap] w fun e w' => e = .returned (.slice ad (tl X n) cap) ∧ w = w' := bare_any h.rd

theorem Out.trimmed {w0 w : World} {ad : Option Addr} {n cap : Nat} {X : List Int} (h : Out w0 w ad n cap X) : Out w0 w ad (tl X n) cap (trim X) ∧ Canon (trim X) := by
 have hrd := h.rd
 refine ⟨?_, canon_trim hrd.2.2.2.1⟩
 have hn := hrd.1
 obtain ⟨hB, ⟨rfl, rfl, rfl, rfl⟩ | ⟨b, zs, rfl, hb, hr, hlz, hzl, hle, hm, rfl⟩⟩ := h
 ·exact ⟨hB, .inl ⟨rfl, rfl, rfl, rfl⟩⟩
 ·have e : tl (zs.take n) n = tl zs n := tl_congr (fun i hi => by rw [lz_take, if_pos hi])
  have hb2 := tl_le zs n
  refine ⟨hB, .inr ⟨b, zs, rfl, hb, hr, hlz, hzl, by omega, hm, ?_⟩⟩
  unfold trim
  rw [hn, e, List.take_take, Nat.min_eq_left hb2]

/-- what stands between two rows that are apart -/
theorem out_one {w0 w : World} (hB : Below w0.heap.size w0 w) (x : Int) (h0 : 0 ≤ x) (h1 : x < 4294967296) : Out w0 (w.alloc (.cells #[.int .u32 x] 73)) (some ⟨w.heap.size, 0, none⟩) 1 1 [x] :=
 ⟨hB.alloc hB.size _, .inr ⟨w.heap.size, [x], rfl, hB.size, row_alloc w [x], fun z hz => by rw [List.mem_singleton.1 hz]; exact ⟨h0, h1⟩, rfl, Nat.le_refl _, by decide, rfl⟩⟩

theorem Out.alloc {w0 w : World} {ad : Option Addr} {n cap : Nat} {X : List Int} (h : Out w0 w ad n cap X) (o : Obj) : Out w0 (w.alloc o) ad n cap X :=
 h.keep (h.1.alloc h.1.size _) (fun _ hb => Below.heap_alloc _ _ _ (h.lt hb).2)

/-- append of one limb -/
theorem run_append_one {w0 w : World} {ad : Option Addr} {n cap : Nat} {xs : List Int} (hO : Out w0 w ad n cap xs) (ty : TypeId) (x : Int) (h0 : 0 ≤ x) (h1 : x < 4294967296) (hbig : n + 1 ≤ 35184372088832) :
  ∃ v' w', (Builtin.append_ #[22, 22] ty #[.slice ad n cap, .slice (some ⟨w.heap.size, 0, none⟩) 1 1]).run Tryz.prog (w.alloc (.cells #[.int .u32 x] 73)) = .ok v' w' ∧
   ∃ ad' cap', v' = .slice ad' (n + 1) cap' ∧ Out w0 w' ad' (n + 1) cap' (xs ++ [x]) ∧ (∀ k, k < w.heap.size → blk ad ≠ some k → w'.heap[k]? = w.heap[k]?) ∧ w.heap.size ≤ w'.heap.size ∧ (∀ k, blk ad' = some k → blk ad = some k ∨ w.heap.size ≤ k) := by
 obtain ⟨v', w', hr, ad', cap', hv, ho, hg, hbk⟩ := run_append_out (hO.alloc (.cells #[.int .u32 x] 73)) ty ⟨w.heap.size, 0, none⟩ 1 1 [x] rfl (fun z hz => by rw [List.mem_singleton.1 hz]; exact ⟨h0, h1⟩) (fun j hj => by
  obtain rfl : j = 0 := by omega
  rw [Addr.add_lit]
  exact (row_alloc w [x]).cell (i := 0) (by simp)) hbig
 refine ⟨v', w', hr, ad', cap', hv, ho, fun k hk hne => ?_, ?_, fun k hk => ?_⟩
 ·rw [hg.block k (by simp; omega) (fun e => hne e.symm)]
  exact Below.heap_alloc _ _ _ hk
 ·have := hg.size; simp at this; omega
 ·rcases hbk k hk with h | h
  ·exact .inl h
  ·exact .inr (by simp at h; omega)

/-- what holds of the rest and of the pieces at every round's head -/
def CutRel (w : World) (n0 : Int) (l1 : Nat) (gk : Nat) (l p : Value) (wr : World) : Prop :=
 ∃ adL nL capL X adP k capP ps, l = .slice adL nL capL ∧ p = .slice adP k capP ∧ Out w wr adL nL capL X ∧ Canon X ∧ Out w wr adP k capP ps ∧ (∀ b, blk adL = some b → blk adP ≠ some b) ∧ nL ≤ l1 ∧ 0 < k ∧ k ≤ 2 * l1 + 1 ∧ Pcs ps ∧ pv ps + val X * pb k = n0 ∧ (val X = 0 → 1 < k → lz ps (k - 1) ≠ 0) ∧ gk = (val X).toNat

theorem cut_bound {X ps : List Int} {k l1 : Nat} {n0 : Int} (_hc : Canon X) (hp : Pcs ps) (hv : pv ps + val X * pb k = n0) (hlt : n0 < pw l1) (hpos : 0 < val X) : k ≤ 2 * l1 := by
 have h1 := pv_nonneg hp
 have h2 : 1 * pb k ≤ val X * pb k := Int.mul_le_mul_of_nonneg_right (by omega) (Int.le_of_lt (pb_pos k))
 have h3 := pb_pw l1
 rcases Nat.lt_or_ge (2 * l1) k with h | h
 ·have := pb_mono (Nat.le_of_lt h); omega
 ·exact h

theorem cut_value {X ps : List Int} {k : Nat} {n0 : Int} (hk : ps.length = k) (hv : pv ps + val X * pb k = n0) : pv (ps ++ [val X % 1000000000]) + val X / 1000000000 * pb (k + 1) = n0 := by
 rw [pv_snoc, hk, ← hv]
 have e : val X % 1000000000 + 1000000000 * (val X / 1000000000) = val X := Int.emod_add_mul_ediv _ _
 have e2 : val X / 1000000000 * pb (k + 1) = 1000000000 * (val X / 1000000000) * pb k := by
  show val X / 1000000000 * (1000000000 * pb k) = _
  rw [← Int.mul_assoc, Int.mul_comm (val X / 1000000000)]
 rw [e2, Int.add_assoc, ← Int.add_mul, e]

theorem lz_snoc (ps : List Int) (x : Int) : lz (ps ++ [x]) ps.length = x := by simp [lz]

set_option maxRecDepth 100000 in
set_option maxHeartbeats 1600000 in
theorem cut_any {a1 : Option Addr} {l1 c1 : Nat} {xs : List Int} {w : World} (h1 : Rd w a1 l1 c1 xs) (hl : l1 ≤ 1099511627776) :
  Calls Tryz.prog 144 #[.slice a1 l1 c1] w fun e w' => ∃ ad n cap ps, e = .returned (.slice ad n cap) ∧ Out w w' ad n cap ps ∧ 0 < n ∧ n ≤ 2 * l1 + 1 ∧ Pcs ps ∧ pv ps = val xs ∧ (1 < n → lz ps (n - 1) ≠ 0) := by
 have hb1 := tl_le xs l1
 have hnn := val_nonneg h1.2.2.2.1
 have hlt := (vl_bd h1.2.2.2.1 l1).2
 have hvl : vl xs l1 = val xs := by unfold val; rw [h1.1]
 rw [hvl] at hlt
 have HLT := hide hlt
 have HNN := hide hnn
 have HC := hide (canon_trim h1.2.2.2.1)
 have HV := hide (val_trim xs)
 clear hlt hvl hnn
 go_enter Tryz.func144, Tryz.ntmps144
 go_wp2_with fail
 refine (fresh_any h1 hl).mono ?_
 rintro e w1 ⟨adL, capL, rfl, hoL⟩
 go_wp2_with fail
 refine (divl_out hoL (by omega) (by decide) (by decide)).mono ?_
 rintro e w2 ⟨X, rfl, hoX, hvX, hsz, hfr⟩
 have HX := hide hvX
 have hm0 : 0 ≤ val (trim xs) % 1000000000 ∧ val (trim xs) % 1000000000 < 1000000000 := by omega
 generalize hr0 : val (trim xs) % 1000000000 = r0 at *
 have HR0 := hide hr0
 clear hvX hfr hr0 hsz
 go_wp2_with fail
 have hoP := out_one hoX.1 r0 hm0.1 (by omega)
 have hoX2 := hoX.alloc (.cells #[.int .u32 r0] 73)
 refine (bare_out hoX2).mono ?_
 rintro e w3 ⟨rfl, rfl⟩
 have hne : ∀ b, blk adL = some b → b ≠ w2.heap.size := fun b hb => by have := (hoX.lt hb).2; omega
 have hot := hoX2.trimmed
 have htl := tl_le X (tl xs l1)
 generalize hn : tl X (tl xs l1) = nL at *
 have hvt : Hid (val (trim X) = val xs / 1000000000) := by
  show _ = _
  rw [val_trim, unhide HX, unhide HV]
 clear hoX hoX2 hoL hn
 have hstart : Hid (CutRel w (val xs) l1 (val (trim X)).toNat (.slice adL nL capL) (.slice (some ⟨w2.heap.size, 0, none⟩) 1 1) (w2.alloc (.cells #[.int .u32 r0] 73))) := by
  refine ⟨adL, nL, capL, trim X, some ⟨w2.heap.size, 0, none⟩, 1, 1, [r0], rfl, rfl, hot.1, hot.2, hoP, fun b hb e => hne b hb (by cases e; rfl), by omega, by decide, by omega, fun p hp => by rw [List.mem_singleton.1 hp]; exact hm0, ?_, fun _ h => absurd h (by decide), rfl⟩
  have e1 := unhide hvt
  have e2 := unhide HR0
  have e3 := unhide HV
  simp only [pv, pb]
  omega
 clear hot hoP hvt hne
 go_wp2_with fail
 go_loopg [3, 4] (val (trim X)).toNat (fun gk l p wr => CutRel w (val xs) l1 gk l p wr)
 case atStart => exact unhide hstart
 case round =>
  obtain ⟨adL2, nL2, capL2, X2, adP, k, capP, ps, rfl, rfl, hoL2, hcL, hoP, hdj, hnl, hk0, hkb, hpc, hpv, hlast, rfl⟩ := hrel
  have HPV := hide hpv
  have HLAST := hide hlast
  clear hpv hlast hstart
  by_cases hn0 : nL2 = 0
  ·subst hn0
   have hX2 : X2 = [] := List.eq_nil_of_length_eq_zero hoL2.rd.1
   subst hX2
   have hfin : Hid (pv ps = val xs) := by
    have := unhide HPV
    have e : val [] = 0 := rfl
    rw [e] at this
    show _ = _
    omega
   clear HPV
   go_wp2_with fail
   go_ret
   exact ⟨_, _, _, _, rfl, hoP, hk0, hkb, hpc, unhide hfin, (unhide HLAST) rfl⟩
  ·have hpos : 0 < val X2 := by
    have := canon_low hcL (by rw [hoL2.rd.1]; omega)
    have := pw_pos (X2.length - 1)
    omega
   have hkb2 := cut_bound hcL hpc (unhide HPV) (unhide HLT) hpos
   have hps : ps.length = k := hoP.rd.1
   have HPS := hide hps
   have hnew := hide (cut_value hps (unhide HPV))
   have hm1 : 0 ≤ val X2 % 1000000000 ∧ val X2 % 1000000000 < 1000000000 := by omega
   have hg : (0 : Int) < (nL2 : Int) := by omega
   clear HPV hps
   go_wp2_with fail
   refine (divl_out hoL2 (by omega) (by decide) (by decide)).mono ?_
   rintro e w3 ⟨Y, rfl, hoY, hvY, hsz, hfr⟩
   have hoP3 : Out w w3 adP k capP ps := hoP.keep hoY.1 (fun b hb => hfr b (fun e => hdj b e hb))
   have HVY := hide hvY
   clear hvY hfr hsz
   generalize hr1 : val X2 % 1000000000 = r1 at *
   have HR1 := hide hr1
   clear hr1
   go_wp2_with (at_builtin; refine wpList_append_run rfl _ _ 22 rfl _ _ rfl rfl _ (run_append_one hoP3 _ r1 hm1.1 (by omega) (by omega)) ?_; rintro v' w4 ⟨adP', capP', rfl, hoP4, hfr4, hsz4, hbk4⟩)
   have hoY4 : Out w w4 adL2 nL2 capL2 Y := hoY.keep hoP4.1 (fun b hb => hfr4 b (hoY.lt hb).2 (fun e => hdj b hb e))
   refine (bare_out hoY4).mono ?_
   rintro e w5 ⟨rfl, rfl⟩
   have htl2 := tl_le Y nL2
   have hdj4 : ∀ b, blk adL2 = some b → blk adP' ≠ some b := fun b hb e => by
    rcases hbk4 b e with h | h
    ·exact hdj b hb h
    ·have := (hoY.lt hb).2; omega
   have hrel' : Hid (CutRel w (val xs) l1 (val X2 / 1000000000).toNat (.slice adL2 (tl Y nL2) capL2) (.slice adP' (k + 1) capP') w4) := by
    have e1 : val (trim Y) = val X2 / 1000000000 := by rw [val_trim]; exact unhide HVY
    refine ⟨adL2, _, capL2, trim Y, adP', k + 1, capP', ps ++ [r1], rfl, rfl, hoY4.trimmed.1, hoY4.trimmed.2, hoP4, hdj4, by omega, by omega, by omega, hpc.snoc hm1.1 hm1.2, by rw [e1]; exact unhide hnew, fun h _ => ?_, by rw [e1]⟩
    rw [Nat.add_sub_cancel]
    have e2 := lz_snoc ps r1
    rw [unhide HPS] at e2
    rw [e2]
    have := unhide HR1
    rw [e1] at h
    omega
   have hmeas : Hid ((val X2 / 1000000000).toNat < (val X2).toNat) := by
    show _ < _
    omega
   clear hfr4 hbk4 hdj hdj4 hoY hoY4 hoP3 hoP4 hoP hoL2 hnew
   go_wp2_with fail
   go_roundg (val X2 / 1000000000).toNat
   case measure => exact unhide hmeas
   case rel => exact unhide hrel'
end Go.Proofs.YtjhhknfnaobmiaaGreatDoor

namespace Go.Proofs.YtjhhknfnaobmiaaGreatDoor
open Go.RowKit

theorem builder_below {T e : TypeId} {B b : Nat} {bs : List Value} {w w' : World} (h : Lib.IsBuilder T e B b bs w) (hb : Below w.heap.size w w') : Lib.IsBuilder T e B b bs w' := by
 have key : ∀ p, Lib.BuilderAt T e B b p bs w → Lib.BuilderAt T e B b p bs w' := by
  rintro p ⟨hB, v, hbk, hown, hne⟩
  have hlt : b < w.heap.size := by
   rcases Nat.lt_or_ge b w.heap.size with h' | h'
   ·exact h'
   ·rw [Array.getElem?_eq_none h'] at hbk; cases hbk
  exact ⟨hB, v, by rw [hb.block b hlt]; exact hbk, hown.kept (row := none) ⟨hb.os, hb.tape, hb.output, hb.size, fun k hk _ => hb.block k hk⟩ (by
   cases hq : v.ownBlock with
   | none => exact .inl rfl
   | some k => exact .inr (by simp)), hne⟩
 rcases h with h | h
 ·exact .inl (key _ h)
 ·exact .inr (key _ h)

theorem builder_new (T e : TypeId) (w : World) : Lib.IsBuilder T e w.heap.size w.heap.size (Lib.byteCells []) (w.alloc (.cells #[.pointer none, .slice none 0 0] T)) :=
 .inl ⟨Nat.le_refl _, .slice none 0 0, heap_alloc_new w _, World.ownsRow_nil _ _ _ _, by simp [Value.ownBlock]⟩

theorem strCells_list (l : List UInt8) : Lib.strCells ⟨l.toArray⟩ = Lib.byteCells l := by
 simp [Lib.strCells, Lib.byteCells]

theorem byteCells_append (l r : List UInt8) : Lib.byteCells l ++ Lib.byteCells r = Lib.byteCells (l ++ r) := by
 simp [Lib.byteCells]

theorem size_list (l : List UInt8) : (⟨l.toArray⟩ : ByteArray).size = l.length := by
 show l.toArray.size = _
 simp

set_option maxRecDepth 100000 in
set_option maxHeartbeats 1600000 in
theorem text_any {a1 : Option Addr} {l1 c1 : Nat} {xs : List Int} {w : World} (h1 : Rd w a1 l1 c1 xs) (hl : l1 ≤ 1099511627776) (htab : Tab w) :
  Calls Tryz.prog 122 #[.slice a1 l1 c1] w fun e w' => e = .returned (.string ⟨(Lib.decDigits (val xs).toNat).toArray⟩) ∧ Below w.heap.size w w' := by
 go_enter Tryz.func122, Tryz.ntmps122
 go_wp2_with fail
 refine (cut_any h1 hl).mono ?_
 rintro e wB ⟨adP, n, cap, ps, rfl, hoP, hn0, hnb, hpc, hpv, hlast⟩
 have hrd := hoP.rd
 obtain ⟨bP, oP, rfl, gP⟩ := hrd.some hn0
 have hBel := hoP.1
 obtain ⟨m, rfl⟩ : ∃ m, n = m + 1 := ⟨n - 1, by omega⟩
 have hbuild := builder_new 111 5 wB
 have htabB := htab.below hBel
 have hltP : bP < wB.heap.size := (hoP.lt rfl).2
 have hp := hpc.limbs
 have HPV := hide hpv
 have HLAST := hide hlast
 have HPC := hide hpc
 have hA1 : Below wB.heap.size wB (wB.alloc (.cells #[.pointer none, .slice none 0 0] 111)) := (Below.refl _ _).alloc (Nat.le_refl _) _
 have gA : ∀ i, i < m + 1 → (wB.alloc (.cells #[.pointer none, .slice none 0 0] 111)).cell? ⟨bP, oP + i, none⟩ = some (.int .u32 (lz ps i)) := fun i hi => (hA1.cell (p := ⟨bP, oP + i, none⟩) hltP).trans (gP i hi)
 have gAm := gA m (by omega)
 clear hpv hlast hpc gA
 obtain ⟨u, hu⟩ := Int.eq_ofNat_of_zero_le (lz_bd hp m).1
 have hu2 := (lz_bd hp m).2
 rw [hu] at gAm
 have HU := hide hu
 clear hu
 have hpl : ps.length = m + 1 := hrd.1
 have HPL := hide hpl
 have hu3 : u < 1000000000 := by
  have := unhide HPC (lz ps m) (by
   have e : lz ps m = ps[m]'(by omega) := by simp [lz, List.getD, hpl]
   rw [e]; exact List.getElem_mem _)
  have := unhide HU
  omega
 have hulen := dec_length_le 9 u hu3 (by decide)
 have hA2 := htabB.below hA1
 clear hpl
 go_wp2_with fail
 refine (digits_any u (by omega) _ hA2).mono ?_
 rintro e w1 ⟨rfl, hb1⟩
 have hbu1 := builder_below hbuild hb1
 have hsz1 : wB.heap.size + 1 ≤ w1.heap.size := by have := hb1.size; simpa using this
 have hB1 : Below wB.heap.size wB w1 := hA1.trans (hb1.mono (by simp))
 clear hbuild hb1 hA2
 go_wp2_with fail
 refine (write_lay wB.heap.size wB.heap.size _ _ w1 hbu1 (by rw [Lib.byteCells_length, size_list]; simp; omega) (by omega)).mono ?_
 rintro e w2 ⟨rfl, hbu2, hb2⟩
 rw [strCells_list, byteCells_append, List.nil_append] at hbu2
 have hB2 : Below wB.heap.size wB w2 := hB1.trans hb2
 have hsz2 : wB.heap.size + 1 ≤ w2.heap.size := by have := hb2.size; omega
 have hhi := hide (hi_last (unhide HPL) (unhide HU))
 clear hbu1 hb2 hB1 hsz1 gAm
 go_wp2_with fail
 go_loopw [6] (fun i wr => ∃ k : Nat, k ≤ m ∧ i = .int .i64 ((k : Int) - 1) ∧ Lib.IsBuilder 111 5 wB.heap.size wB.heap.size (Lib.byteCells (Lib.decDigits (hi ps k))) wr ∧ Below wB.heap.size wB wr ∧ wB.heap.size + 1 ≤ wr.heap.size ∧ (Lib.decDigits (hi ps k)).length ≤ 9 * (m + 1 - k)) (fun i _ => (intOf i + 1).toNat)
 case atStart => exact ⟨m, Nat.le_refl _, rfl, .inr (by rw [unhide hhi]; exact hbu2), hB2, hsz2, by rw [unhide hhi]; omega⟩
 case round =>
  obtain ⟨k, hk, rfl, hbu, hB, hsz, hlen⟩ := hrel
  clear hbu2 hB2 hsz2
  cases k with
  | zero =>
   go_wp2_with fail
   refine (string_lay _ _ _ wr hbu (by omega)).mono ?_
   rintro e w3 ⟨rfl, hb3⟩
   have hfin : Hid (hi ps 0 = (val xs).toNat) := by
    show _ = _
    unfold hi
    rw [List.drop_zero, unhide HPV]
   have hBf := hide (hBel.trans ((hB.trans hb3).mono hBel.size))
   go_wp2_with fail
   go_ret
   rw [unhide hfin]
   exact ⟨rfl, unhide hBf⟩
  | succ j =>
   have hbj := lz_bd hp j
   have hlast : lz ps m ≠ 0 := by have := (unhide HLAST) (by omega); simpa using this
   have hpos := hi_pos (unhide HPC) (unhide HPL) hlast (j + 1) (by omega)
   have gj : wr.cell? ⟨bP, oP + j, none⟩ = some (.int .u32 (lz ps j)) := (hB.cell (p := ⟨bP, oP + j, none⟩) hltP).trans (gP j (by omega))
   have hpj : lz ps j < 1000000000 := by
    refine (unhide HPC (lz ps j) ?_).2
    have hj : j < ps.length := by have := unhide HPL; omega
    have e : lz ps j = ps[j]'hj := by simp [lz, List.getD, hj]
    rw [e]; exact List.getElem_mem _
   obtain ⟨v, hv⟩ := Int.eq_ofNat_of_zero_le hbj.1
   have hstep := hide (hi_step (unhide HPC) (j := j) (u := v) (by have := unhide HPL; omega) hv)
   rw [hv] at gj hpj
   have htr := htabB.below hB
   have hvlen := dec_length_le 9 v (by omega) (by decide)
   have htext := hide (text_step (hi ps (j + 1)) v hpos (by omega))
   clear hv hbj hlast
   go_wp2_with fail
   refine (digits_any v (by omega) wr htr).mono ?_
   rintro e w1 ⟨rfl, hb1⟩
   have hbu1 := builder_below hbu hb1
   have hB1 : Below wB.heap.size wB w1 := hB.trans (hb1.mono (by omega))
   have hsz1 : wB.heap.size + 1 ≤ w1.heap.size := by have := hb1.size; omega
   clear hbu hb1 gj htr
   generalize hD : Lib.decDigits v = D at *
   have HD := hide hD
   clear hD
   go_wp2_with fail
   rw [show ((9 : Int) - (D.length : Int)) = ((9 - D.length : Nat) : Int) from by omega]
   refine (repeat_lay ⟨#[48]⟩ (9 - D.length) w1 (by omega) (by rw [show (⟨#[48]⟩ : ByteArray).size = 1 from rfl]; omega)).mono ?_
   rintro e w2 ⟨rfl, hb2⟩
   rw [show (⟨#[48]⟩ : ByteArray).data.toList = [48] from rfl]
   have hbu2 := builder_below hbu1 hb2
   have hB2 : Below wB.heap.size wB w2 := hB1.trans (hb2.mono (by omega))
   have hsz2 : wB.heap.size + 1 ≤ w2.heap.size := by have := hb2.size; omega
   have hrl : (Lib.repeatL [48] (9 - D.length)).length = 9 - D.length := by rw [Lib.repeatL_length]; simp
   have HRL := hide hrl
   generalize hR : Lib.repeatL [48] (9 - D.length) = R at *
   clear hbu1 hb2 hB1 hsz1 hR hrl
   go_wp2_with fail
   refine (write_lay wB.heap.size wB.heap.size _ _ w2 hbu2 (by rw [Lib.byteCells_length, size_list, unhide HRL]; omega) (by omega)).mono ?_
   rintro e w3 ⟨rfl, hbu3, hb3⟩
   rw [strCells_list, byteCells_append] at hbu3
   have hB3 : Below wB.heap.size wB w3 := hB2.trans hb3
   have hsz3 : wB.heap.size + 1 ≤ w3.heap.size := by have := hb3.size; omega
   clear hbu2 hb3 hB2 hsz2
   go_wp2_with fail
   refine (write_lay wB.heap.size wB.heap.size _ _ w3 (.inr hbu3) (by rw [Lib.byteCells_length, size_list, List.length_append, unhide HRL]; omega) (by omega)).mono ?_
   rintro e w4 ⟨rfl, hbu4, hb4⟩
   rw [strCells_list, byteCells_append, List.append_assoc, unhide htext, ← unhide hstep] at hbu4
   have hB4 : Below wB.heap.size wB w4 := hB3.trans hb4
   have hsz4 : wB.heap.size + 1 ≤ w4.heap.size := by have := hb4.size; omega
   have hlen4 : (Lib.decDigits (hi ps j)).length ≤ 9 * (m + 1 - j) := by
    rw [unhide hstep, ← unhide htext, List.length_append, List.length_append, unhide HRL]
    omega
   have HF := hide (And.intro hbu4 (And.intro hB4 (And.intro hsz4 hlen4)))
   clear hbu3 hb4 hB3 hsz3 hbu4 hB4 hsz4 hlen4
   go_wp2_with fail
   go_roundw
   case rel => exact ⟨j, by omega, by go_num, .inr (unhide HF).1, (unhide HF).2.1, (unhide HF).2.2.1, (unhide HF).2.2.2⟩
   case measure => simp [intOf]
end Go.Proofs.YtjhhknfnaobmiaaGreatDoor

namespace Go.Proofs.YtjhhknfnaobmiaaGreatDoor
open Go.RowKit

end Go.Proofs.YtjhhknfnaobmiaaGreatDoor

namespace Go.Proofs.YtjhhknfnaobmiaaGreatDoor
open Go.RowKit

theorem val_snoc (Y : List Int) (cr : Int) : val (Y ++ [cr]) = val Y + cr * pw Y.length := by
 unfold val
 rw [List.length_append, List.length_singleton, vl_succ]
 have e1 : vl (Y ++ [cr]) Y.length = vl Y Y.length := vl_congr (fun i hi => by simp [lz, List.getD, List.getElem?_append_left hi])
 rw [e1, lz_snoc]

theorem canon_len {zs : List Int} (h : Canon zs) {k : Nat} (hv : val zs < pw k) : zs.length ≤ k := by
 rcases Nat.lt_or_ge k zs.length with h1 | h1
 ·have h2 := canon_low h (by omega)
  have h3 : pw k ≤ pw (zs.length - 1) := pw_mono (by omega)
  omega
 ·exact h1

end Go.Proofs.YtjhhknfnaobmiaaGreatDoor
