/-
 Several texts in one: T2, T3, T4, T5, K1, Kp, K2.
-/
import Derived.Test.YtndhjoofbkgkiaaDoorP05
import Derived.Test.YtndhjoofbkgkiaaDoorP03
import Derived.Deep.LoopGhost
namespace Go.Proofs.YtndhjoofbkgkiaaDoor
open Go.RowKit

/-- divideByLimb on an answer of the call's own -/
theorem divl_out {w0 w : World} {ad : Option Addr} {n cap : Nat} {X : List Int} {d : Int} (h : Out w0 w ad n cap X) (hbig : n ≤ 1099511627776) (hd0 : 0 < d) (hd1 : d < 4294967296) :
  Calls Tryd.prog 46 #[.slice ad n cap, .int .u32 d] w fun e w' => ∃ Y, e = .returned (.int .u32 (val X % d)) ∧ Out w0 w' ad n cap Y ∧ val Y = val X / d ∧ w'.heap.size = w.heap.size ∧ (∀ k, blk ad ≠ some k → w'.heap[k]? = w.heap[k]?) := by
 obtain ⟨hB, ⟨rfl, rfl, rfl, rfl⟩ | ⟨b, zs, rfl, hb, hr, hlz, hzl, hle, hm, rfl⟩⟩ := h
 ·refine (divl_nil d w).mono ?_
  rintro e w' ⟨rfl, rfl⟩
  refine ⟨[], ret_int ?_, ⟨hB, .inl ⟨rfl, rfl, rfl, rfl⟩⟩, ?_, rfl, fun _ _ => rfl⟩
  ·show 0 = (0 : Int) % d
   simp
  ·show 0 = (0 : Int) / d
   simp
 ·refine (divl_row (len := n) (cap := cap) hr hlz (by omega) hbig hd0 hd1).mono ?_
  rintro e w' ⟨zk, rfl, hrk, hlk, hzkl, hsame, hvk, honly⟩
  refine ⟨zk.take n, ret_int (by rw [val_take _ _ (by omega)]), ⟨hB.trans (honly.below hb), .inr ⟨b, zk, rfl, hb, hrk, hlk, by omega, hle, hm, rfl⟩⟩, by rw [val_take _ _ (by omega), val_take _ _ (by omega)]; exact hvk, honly.size, fun k hk => honly.block k (fun e => hk (by simp [blk, e]))⟩

/-- bare of an answer of the call's own -/
theorem bare_out {w0 w : World} {ad : Option Addr} {n cap : Nat} {X : List Int} (h : Out w0 w ad n cap X) :
  Calls Tryd.prog 36 #[.slice ad n cap] w fun e w' => e = .returned (.slice ad (tl X n) cap) ∧ w = w' := bare_any h.rd

theorem Out.trimmed {w0 w : World} {ad : Option Addr} {n cap : Nat} {X : List Int} (h : Out w0 w ad n cap X) : Out w0 w ad (tl X n) cap (trim X) ∧ Canon (trim X) := by
 have hrd := h.rd
 refine ⟨?_, canon_trim hrd.2.2.2.1⟩
 have hn := hrd.1
 obtain ⟨hB, ⟨rfl, rfl, rfl, rfl⟩ | ⟨b, zs, rfl, hb, hr, hlz, hzl, hle, hm, rfl⟩⟩ := h
 ·exact ⟨hB, .inl ⟨rfl, rfl, rfl, rfl⟩⟩
 ·have e : tl (zs.take n) n = tl zs n := tl_congr (fun i hi => by rw [lz_take, if_pos hi])
  have hb2 := tl_le zs n
  refine ⟨hB, .inr ⟨b, zs, rfl, hb, hr, hlz, hzl, by omega, hm, ?_⟩⟩
  unfold trim
  rw [hn, e, List.take_take, Nat.min_eq_left hb2]

/-- what stands between two rows that are apart -/
theorem out_one {w0 w : World} (hB : Below w0.heap.size w0 w) (x : Int) (h0 : 0 ≤ x) (h1 : x < 4294967296) : Out w0 (w.alloc (.cells #[.int .u32 x] 49)) (some ⟨w.heap.size, 0, none⟩) 1 1 [x] :=
 ⟨hB.alloc hB.size _, .inr ⟨w.heap.size, [x], rfl, hB.size, row_alloc w [x], fun z hz => by rw [List.mem_singleton.1 hz]; exact ⟨h0, h1⟩, rfl, Nat.le_refl _, by decide, rfl⟩⟩

theorem Out.alloc {w0 w : World} {ad : Option Addr} {n cap : Nat} {X : List Int} (h : Out w0 w ad n cap X) (o : Obj) : Out w0 (w.alloc o) ad n cap X :=
 h.keep (h.1.alloc h.1.size _) (fun _ hb => Below.heap_alloc _ _ _ (h.lt hb).2)

/-- append of one limb -/
theorem run_append_one {w0 w : World} {ad : Option Addr} {n cap : Nat} {xs : List Int} (hO : Out w0 w ad n cap xs) (ty : TypeId) (x : Int) (h0 : 0 ≤ x) (h1 : x < 4294967296) (hbig : n + 1 ≤ 35184372088832) :
  ∃ v' w', (Builtin.append_ #[22, 22] ty #[.slice ad n cap, .slice (some ⟨w.heap.size, 0, none⟩) 1 1]).run Tryd.prog (w.alloc (.cells #[.int .u32 x] 49)) = .ok v' w' ∧
   ∃ ad' cap', v' = .slice ad' (n + 1) cap' ∧ Out w0 w' ad' (n + 1) cap' (xs ++ [x]) ∧ (∀ k, k < w.heap.size → blk ad ≠ some k → w'.heap[k]? = w.heap[k]?) ∧ w.heap.size ≤ w'.heap.size ∧ (∀ k, blk ad' = some k → blk ad = some k ∨ w.heap.size ≤ k) := by
 obtain ⟨v', w', hr, ad', cap', hv, ho, hg, hbk⟩ := run_append_out (hO.alloc (.cells #[.int .u32 x] 49)) ty ⟨w.heap.size, 0, none⟩ 1 1 [x] rfl (fun z hz => by rw [List.mem_singleton.1 hz]; exact ⟨h0, h1⟩) (fun j hj => by
  obtain rfl : j = 0 := by omega
  rw [Addr.add_lit]
  exact (row_alloc w [x]).cell (i := 0) (by simp)) hbig
 refine ⟨v', w', hr, ad', cap', hv, ho, fun k hk hne => ?_, ?_, fun k hk => ?_⟩
 ·rw [hg.block k (by simp; omega) (fun e => hne e.symm)]
  exact Below.heap_alloc _ _ _ hk
 ·have := hg.size; simp at this; omega
 ·rcases hbk k hk with h | h
  ·exact .inl h
  ·exact .inr (by simp at h; omega)

/-- what holds of the rest and of the pieces at every round's head -/
def CutRel (w : World) (n0 : Int) (l1 : Nat) (gk : Nat) (l p : Value) (wr : World) : Prop :=
 ∃ adL nL capL X adP k capP ps, l = .slice adL nL capL ∧ p = .slice adP k capP ∧ Out w wr adL nL capL X ∧ Canon X ∧ Out w wr adP k capP ps ∧ (∀ b, blk adL = some b → blk adP ≠ some b) ∧ nL ≤ l1 ∧ 0 < k ∧ k ≤ 2 * l1 + 1 ∧ Pcs ps ∧ pv ps + val X * pb k = n0 ∧ (val X = 0 → 1 < k → lz ps (k - 1) ≠ 0) ∧ gk = (val X).toNat

theorem cut_bound {X ps : List Int} {k l1 : Nat} {n0 : Int} (_hc : Canon X) (hp : Pcs ps) (hv : pv ps + val X * pb k = n0) (hlt : n0 < pw l1) (hpos : 0 < val X) : k ≤ 2 * l1 := by
 have h1 := pv_nonneg hp
 have h2 : 1 * pb k ≤ val X * pb k := Int.mul_le_mul_of_nonneg_right (by omega) (Int.le_of_lt (pb_pos k))
 have h3 := pb_pw l1
 rcases Nat.lt_or_ge (2 * l1) k with h | h
 ·have := pb_mono (Nat.le_of_lt h); omega
 ·exact h

theorem cut_value {X ps : List Int} {k : Nat} {n0 : Int} (hk : ps.length = k) (hv : pv ps + val X * pb k = n0) : pv (ps ++ [val X % 1000000000]) + val X / 1000000000 * pb (k + 1) = n0 := by
 rw [pv_snoc, hk, ← hv]
 have e : val X % 1000000000 + 1000000000 * (val X / 1000000000) = val X := Int.emod_add_mul_ediv _ _
 have e2 : val X / 1000000000 * pb (k + 1) = 1000000000 * (val X / 1000000000) * pb k := by
  show val X / 1000000000 * (1000000000 * pb k) = _
  rw [← Int.mul_assoc, Int.mul_comm (val X / 1000000000)]
 rw [e2, Int.add_assoc, ← Int.add_mul, e]

theorem lz_snoc (ps : List Int) (x : Int) : lz (ps ++ [x]) ps.length = x := by simp [lz]

set_option maxRecDepth 100000 in
set_option maxHeartbeats 1600000 in
theorem cut_any {a1 : Option Addr} {l1 c1 : Nat} {xs : List Int} {w : World} (h1 : Rd w a1 l1 c1 xs) (hl : l1 ≤ 1099511627776) :
  Calls Tryd.prog 65 #[.slice a1 l1 c1] w fun e w' => ∃ ad n cap ps, e = .returned (.slice ad n cap) ∧ Out w w' ad n cap ps ∧ 0 < n ∧ n ≤ 2 * l1 + 1 ∧ Pcs ps ∧ pv ps = val xs ∧ (1 < n → lz ps (n - 1) ≠ 0) := by
 have hb1 := tl_le xs l1
 have hnn := val_nonneg h1.2.2.2.1
 have hlt := (vl_bd h1.2.2.2.1 l1).2
 have hvl : vl xs l1 = val xs := by unfold val; rw [h1.1]
 rw [hvl] at hlt
 have HLT := hide hlt
 have HNN := hide hnn
 have HC := hide (canon_trim h1.2.2.2.1)
 have HV := hide (val_trim xs)
 clear hlt hvl hnn
 go_enter Tryd.func65, Tryd.ntmps65
 go_wp2_with fail
 refine (fresh_any h1 hl).mono ?_
 rintro e w1 ⟨adL, capL, rfl, hoL⟩
 go_wp2_with fail
 refine (divl_out hoL (by omega) (by decide) (by decide)).mono ?_
 rintro e w2 ⟨X, rfl, hoX, hvX, hsz, hfr⟩
 have HX := hide hvX
 have hm0 : 0 ≤ val (trim xs) % 1000000000 ∧ val (trim xs) % 1000000000 < 1000000000 := by omega
 generalize hr0 : val (trim xs) % 1000000000 = r0 at *
 have HR0 := hide hr0
 clear hvX hfr hr0 hsz
 go_wp2_with fail
 have hoP := out_one hoX.1 r0 hm0.1 (by omega)
 have hoX2 := hoX.alloc (.cells #[.int .u32 r0] 49)
 refine (bare_out hoX2).mono ?_
 rintro e w3 ⟨rfl, rfl⟩
 have hne : ∀ b, blk adL = some b → b ≠ w2.heap.size := fun b hb => by have := (hoX.lt hb).2; omega
 have hot := hoX2.trimmed
 have htl := tl_le X (tl xs l1)
 generalize hn : tl X (tl xs l1) = nL at *
 have hvt : Hid (val (trim X) = val xs / 1000000000) := by
  show _ = _
  rw [val_trim, unhide HX, unhide HV]
 clear hoX hoX2 hoL hn
 have hstart : Hid (CutRel w (val xs) l1 (val (trim X)).toNat (.slice adL nL capL) (.slice (some ⟨w2.heap.size, 0, none⟩) 1 1) (w2.alloc (.cells #[.int .u32 r0] 49))) := by
  refine ⟨adL, nL, capL, trim X, some ⟨w2.heap.size, 0, none⟩, 1, 1, [r0], rfl, rfl, hot.1, hot.2, hoP, fun b hb e => hne b hb (by cases e; rfl), by omega, by decide, by omega, fun p hp => by rw [List.mem_singleton.1 hp]; exact hm0, ?_, fun _ h => absurd h (by decide), rfl⟩
  have e1 := unhide hvt
  have e2 := unhide HR0
  have e3 := unhide HV
  simp only [pv, pb]
  omega
 clear hot hoP hvt hne
 go_wp2_with fail
 go_loopg [3, 4] (val (trim X)).toNat (fun gk l p wr => CutRel w (val xs) l1 gk l p wr)
 case atStart => exact unhide hstart
 case round =>
  obtain ⟨adL2, nL2, capL2, X2, adP, k, capP, ps, rfl, rfl, hoL2, hcL, hoP, hdj, hnl, hk0, hkb, hpc, hpv, hlast, rfl⟩ := hrel
  have HPV := hide hpv
  have HLAST := hide hlast
  clear hpv hlast hstart
  by_cases hn0 : nL2 = 0
  ·subst hn0
   have hX2 : X2 = [] := List.eq_nil_of_length_eq_zero hoL2.rd.1
   subst hX2
   have hfin : Hid (pv ps = val xs) := by
    have := unhide HPV
    have e : val [] = 0 := rfl
    rw [e] at this
    show _ = _
    omega
   clear HPV
   go_wp2_with fail
   go_ret
   exact ⟨_, _, _, _, rfl, hoP, hk0, hkb, hpc, unhide hfin, (unhide HLAST) rfl⟩
  ·have hpos : 0 < val X2 := by
    have := canon_low hcL (by rw [hoL2.rd.1]; omega)
    have := pw_pos (X2.length - 1)
    omega
   have hkb2 := cut_bound hcL hpc (unhide HPV) (unhide HLT) hpos
   have hps : ps.length = k := hoP.rd.1
   have HPS := hide hps
   have hnew := hide (cut_value hps (unhide HPV))
   have hm1 : 0 ≤ val X2 % 1000000000 ∧ val X2 % 1000000000 < 1000000000 := by omega
   have hg : (0 : Int) < (nL2 : Int) := by omega
   clear HPV hps
   go_wp2_with fail
   refine (divl_out hoL2 (by omega) (by decide) (by decide)).mono ?_
   rintro e w3 ⟨Y, rfl, hoY, hvY, hsz, hfr⟩
   have hoP3 : Out w w3 adP k capP ps := hoP.keep hoY.1 (fun b hb => hfr b (fun e => hdj b e hb))
   have HVY := hide hvY
   clear hvY hfr hsz
   generalize hr1 : val X2 % 1000000000 = r1 at *
   have HR1 := hide hr1
   clear hr1
   go_wp2_with (at_builtin; refine wpList_append_run rfl _ _ 22 rfl _ _ rfl rfl _ (run_append_one hoP3 _ r1 hm1.1 (by omega) (by omega)) ?_; rintro v' w4 ⟨adP', capP', rfl, hoP4, hfr4, hsz4, hbk4⟩)
   have hoY4 : Out w w4 adL2 nL2 capL2 Y := hoY.keep hoP4.1 (fun b hb => hfr4 b (hoY.lt hb).2 (fun e => hdj b hb e))
   refine (bare_out hoY4).mono ?_
   rintro e w5 ⟨rfl, rfl⟩
   have htl2 := tl_le Y nL2
   have hdj4 : ∀ b, blk adL2 = some b → blk adP' ≠ some b := fun b hb e => by
    rcases hbk4 b e with h | h
    ·exact hdj b hb h
    ·have := (hoY.lt hb).2; omega
   have hrel' : Hid (CutRel w (val xs) l1 (val X2 / 1000000000).toNat (.slice adL2 (tl Y nL2) capL2) (.slice adP' (k + 1) capP') w4) := by
    have e1 : val (trim Y) = val X2 / 1000000000 := by rw [val_trim]; exact unhide HVY
    refine ⟨adL2, _, capL2, trim Y, adP', k + 1, capP', ps ++ [r1], rfl, rfl, hoY4.trimmed.1, hoY4.trimmed.2, hoP4, hdj4, by omega, by omega, by omega, hpc.snoc hm1.1 hm1.2, by rw [e1]; exact unhide hnew, fun h _ => ?_, by rw [e1]⟩
    rw [Nat.add_sub_cancel]
    have e2 := lz_snoc ps r1
    rw [unhide HPS] at e2
    rw [e2]
    have := unhide HR1
    rw [e1] at h
    omega
   have hmeas : Hid ((val X2 / 1000000000).toNat < (val X2).toNat) := by
    show _ < _
    omega
   clear hfr4 hbk4 hdj hdj4 hoY hoY4 hoP3 hoP4 hoP hoL2 hnew
   go_wp2_with fail
   go_roundg (val X2 / 1000000000).toNat
   case measure => exact unhide hmeas
   case rel => exact unhide hrel'
end Go.Proofs.YtndhjoofbkgkiaaDoor

namespace Go.Proofs.YtndhjoofbkgkiaaDoor
open Go.RowKit

theorem builder_below {T e : TypeId} {B b : Nat} {bs : List Value} {w w' : World} (h : Lib.IsBuilder T e B b bs w) (hb : Below w.heap.size w w') : Lib.IsBuilder T e B b bs w' := by
 have key : ∀ p, Lib.BuilderAt T e B b p bs w → Lib.BuilderAt T e B b p bs w' := by
  rintro p ⟨hB, v, hbk, hown, hne⟩
  have hlt : b < w.heap.size := by
   rcases Nat.lt_or_ge b w.heap.size with h' | h'
   ·exact h'
   ·rw [Array.getElem?_eq_none h'] at hbk; cases hbk
  exact ⟨hB, v, by rw [hb.block b hlt]; exact hbk, hown.kept (row := none) ⟨hb.os, hb.tape, hb.output, hb.size, fun k hk _ => hb.block k hk⟩ (by
   cases hq : v.ownBlock with
   | none => exact .inl rfl
   | some k => exact .inr (by simp)), hne⟩
 rcases h with h | h
 ·exact .inl (key _ h)
 ·exact .inr (key _ h)

theorem builder_new (T e : TypeId) (w : World) : Lib.IsBuilder T e w.heap.size w.heap.size (Lib.byteCells []) (w.alloc (.cells #[.pointer none, .slice none 0 0] T)) :=
 .inl ⟨Nat.le_refl _, .slice none 0 0, heap_alloc_new w _, World.ownsRow_nil _ _ _ _, by simp [Value.ownBlock]⟩

theorem strCells_list (l : List UInt8) : Lib.strCells ⟨l.toArray⟩ = Lib.byteCells l := by
 simp [Lib.strCells, Lib.byteCells]

theorem byteCells_append (l r : List UInt8) : Lib.byteCells l ++ Lib.byteCells r = Lib.byteCells (l ++ r) := by
 simp [Lib.byteCells]

theorem size_list (l : List UInt8) : (⟨l.toArray⟩ : ByteArray).size = l.length := by
 show l.toArray.size = _
 simp

set_option maxRecDepth 100000 in
set_option maxHeartbeats 1600000 in
theorem text_any {a1 : Option Addr} {l1 c1 : Nat} {xs : List Int} {w : World} (h1 : Rd w a1 l1 c1 xs) (hl : l1 ≤ 1099511627776) (htab : Tab w) :
  Calls Tryd.prog 44 #[.slice a1 l1 c1] w fun e w' => e = .returned (.string ⟨(Lib.decDigits (val xs).toNat).toArray⟩) ∧ Below w.heap.size w w' := by
 go_enter Tryd.func44, Tryd.ntmps44
 go_wp2_with fail
 refine (cut_any h1 hl).mono ?_
 rintro e wB ⟨adP, n, cap, ps, rfl, hoP, hn0, hnb, hpc, hpv, hlast⟩
 have hrd := hoP.rd
 obtain ⟨bP, oP, rfl, gP⟩ := hrd.some hn0
 have hBel := hoP.1
 obtain ⟨m, rfl⟩ : ∃ m, n = m + 1 := ⟨n - 1, by omega⟩
 have hbuild := builder_new 80 5 wB
 have htabB := htab.below hBel
 have hltP : bP < wB.heap.size := (hoP.lt rfl).2
 have hp := hpc.limbs
 have HPV := hide hpv
 have HLAST := hide hlast
 have HPC := hide hpc
 have hA1 : Below wB.heap.size wB (wB.alloc (.cells #[.pointer none, .slice none 0 0] 80)) := (Below.refl _ _).alloc (Nat.le_refl _) _
 have gA : ∀ i, i < m + 1 → (wB.alloc (.cells #[.pointer none, .slice none 0 0] 80)).cell? ⟨bP, oP + i, none⟩ = some (.int .u32 (lz ps i)) := fun i hi => (hA1.cell (p := ⟨bP, oP + i, none⟩) hltP).trans (gP i hi)
 have gAm := gA m (by omega)
 clear hpv hlast hpc gA
 obtain ⟨u, hu⟩ := Int.eq_ofNat_of_zero_le (lz_bd hp m).1
 have hu2 := (lz_bd hp m).2
 rw [hu] at gAm
 have HU := hide hu
 clear hu
 have hpl : ps.length = m + 1 := hrd.1
 have HPL := hide hpl
 have hu3 : u < 1000000000 := by
  have := unhide HPC (lz ps m) (by
   have e : lz ps m = ps[m]'(by omega) := by simp [lz, List.getD, hpl]
   rw [e]; exact List.getElem_mem _)
  have := unhide HU
  omega
 have hulen := dec_length_le 9 u hu3 (by decide)
 have hA2 := htabB.below hA1
 clear hpl
 go_wp2_with fail
 refine (digits_any u (by omega) _ hA2).mono ?_
 rintro e w1 ⟨rfl, hb1⟩
 have hbu1 := builder_below hbuild hb1
 have hsz1 : wB.heap.size + 1 ≤ w1.heap.size := by have := hb1.size; simpa using this
 have hB1 : Below wB.heap.size wB w1 := hA1.trans (hb1.mono (by simp))
 clear hbuild hb1 hA2
 go_wp2_with fail
 refine (write_lay wB.heap.size wB.heap.size _ _ w1 hbu1 (by rw [Lib.byteCells_length, size_list]; simp; omega) (by omega)).mono ?_
 rintro e w2 ⟨rfl, hbu2, hb2⟩
 rw [strCells_list, byteCells_append, List.nil_append] at hbu2
 have hB2 : Below wB.heap.size wB w2 := hB1.trans hb2
 have hsz2 : wB.heap.size + 1 ≤ w2.heap.size := by have := hb2.size; omega
 have hhi := hide (hi_last (unhide HPL) (unhide HU))
 clear hbu1 hb2 hB1 hsz1 gAm
 go_wp2_with fail
 go_loopw [6] (fun i wr => ∃ k : Nat, k ≤ m ∧ i = .int .i64 ((k : Int) - 1) ∧ Lib.IsBuilder 80 5 wB.heap.size wB.heap.size (Lib.byteCells (Lib.decDigits (hi ps k))) wr ∧ Below wB.heap.size wB wr ∧ wB.heap.size + 1 ≤ wr.heap.size ∧ (Lib.decDigits (hi ps k)).length ≤ 9 * (m + 1 - k)) (fun i _ => (intOf i + 1).toNat)
 case atStart => exact ⟨m, Nat.le_refl _, rfl, .inr (by rw [unhide hhi]; exact hbu2), hB2, hsz2, by rw [unhide hhi]; omega⟩
 case round =>
  obtain ⟨k, hk, rfl, hbu, hB, hsz, hlen⟩ := hrel
  clear hbu2 hB2 hsz2
  cases k with
  | zero =>
   go_wp2_with fail
   refine (string_lay _ _ _ wr hbu (by omega)).mono ?_
   rintro e w3 ⟨rfl, hb3⟩
   have hfin : Hid (hi ps 0 = (val xs).toNat) := by
    show _ = _
    unfold hi
    rw [List.drop_zero, unhide HPV]
   have hBf := hide (hBel.trans ((hB.trans hb3).mono hBel.size))
   go_wp2_with fail
   go_ret
   rw [unhide hfin]
   exact ⟨rfl, unhide hBf⟩
  | succ j =>
   have hbj := lz_bd hp j
   have hlast : lz ps m ≠ 0 := by have := (unhide HLAST) (by omega); simpa using this
   have hpos := hi_pos (unhide HPC) (unhide HPL) hlast (j + 1) (by omega)
   have gj : wr.cell? ⟨bP, oP + j, none⟩ = some (.int .u32 (lz ps j)) := (hB.cell (p := ⟨bP, oP + j, none⟩) hltP).trans (gP j (by omega))
   have hpj : lz ps j < 1000000000 := by
    refine (unhide HPC (lz ps j) ?_).2
    have hj : j < ps.length := by have := unhide HPL; omega
    have e : lz ps j = ps[j]'hj := by simp [lz, List.getD, hj]
    rw [e]; exact List.getElem_mem _
   obtain ⟨v, hv⟩ := Int.eq_ofNat_of_zero_le hbj.1
   have hstep := hide (hi_step (unhide HPC) (j := j) (u := v) (by have := unhide HPL; omega) hv)
   rw [hv] at gj hpj
   have htr := htabB.below hB
   have hvlen := dec_length_le 9 v (by omega) (by decide)
   have htext := hide (text_step (hi ps (j + 1)) v hpos (by omega))
   clear hv hbj hlast
   go_wp2_with fail
   refine (digits_any v (by omega) wr htr).mono ?_
   rintro e w1 ⟨rfl, hb1⟩
   have hbu1 := builder_below hbu hb1
   have hB1 : Below wB.heap.size wB w1 := hB.trans (hb1.mono (by omega))
   have hsz1 : wB.heap.size + 1 ≤ w1.heap.size := by have := hb1.size; omega
   clear hbu hb1 gj htr
   generalize hD : Lib.decDigits v = D at *
   have HD := hide hD
   clear hD
   go_wp2_with fail
   rw [show ((9 : Int) - (D.length : Int)) = ((9 - D.length : Nat) : Int) from by omega]
   refine (repeat_lay ⟨#[48]⟩ (9 - D.length) w1 (by omega) (by rw [show (⟨#[48]⟩ : ByteArray).size = 1 from rfl]; omega)).mono ?_
   rintro e w2 ⟨rfl, hb2⟩
   rw [show (⟨#[48]⟩ : ByteArray).data.toList = [48] from rfl]
   have hbu2 := builder_below hbu1 hb2
   have hB2 : Below wB.heap.size wB w2 := hB1.trans (hb2.mono (by omega))
   have hsz2 : wB.heap.size + 1 ≤ w2.heap.size := by have := hb2.size; omega
   have hrl : (Lib.repeatL [48] (9 - D.length)).length = 9 - D.length := by rw [Lib.repeatL_length]; simp
   have HRL := hide hrl
   generalize hR : Lib.repeatL [48] (9 - D.length) = R at *
   clear hbu1 hb2 hB1 hsz1 hR hrl
   go_wp2_with fail
   refine (write_lay wB.heap.size wB.heap.size _ _ w2 hbu2 (by rw [Lib.byteCells_length, size_list, unhide HRL]; omega) (by omega)).mono ?_
   rintro e w3 ⟨rfl, hbu3, hb3⟩
   rw [strCells_list, byteCells_append] at hbu3
   have hB3 : Below wB.heap.size wB w3 := hB2.trans hb3
   have hsz3 : wB.heap.size + 1 ≤ w3.heap.size := by have := hb3.size; omega
   clear hbu2 hb3 hB2 hsz2
   go_wp2_with fail
   refine (write_lay wB.heap.size wB.heap.size _ _ w3 (.inr hbu3) (by rw [Lib.byteCells_length, size_list, List.length_append, unhide HRL]; omega) (by omega)).mono ?_
   rintro e w4 ⟨rfl, hbu4, hb4⟩
   rw [strCells_list, byteCells_append, List.append_assoc, unhide htext, ← unhide hstep] at hbu4
   have hB4 : Below wB.heap.size wB w4 := hB3.trans hb4
   have hsz4 : wB.heap.size + 1 ≤ w4.heap.size := by have := hb4.size; omega
   have hlen4 : (Lib.decDigits (hi ps j)).length ≤ 9 * (m + 1 - j) := by
    rw [unhide hstep, ← unhide htext, List.length_append, List.length_append, unhide HRL]
    omega
   have HF := hide (And.intro hbu4 (And.intro hB4 (And.intro hsz4 hlen4)))
   clear hbu3 hb4 hB3 hsz3 hbu4 hB4 hsz4 hlen4
   go_wp2_with fail
   go_roundw
   case rel => exact ⟨j, by omega, by go_num, .inr (unhide HF).1, (unhide HF).2.1, (unhide HF).2.2.1, (unhide HF).2.2.2⟩
   case measure => simp [intOf]
end Go.Proofs.YtndhjoofbkgkiaaDoor

namespace Go.Proofs.YtndhjoofbkgkiaaDoor
open Go.RowKit

/-- the byte at a place -/
def bt (s : ByteArray) (i : Nat) : Nat := (s.data.toList.getD i 0).toNat

theorem bt_eq (s : ByteArray) (i : Nat) (h : i < s.size) : bt s i = (s[i]'h).toNat := by
  unfold bt
  have : s.data.toList.getD i 0 = s[i]'h := by
    have h2 : i < s.data.size := h
    have e : s.data.toList[i]? = some (s.data[i]'h2) := by simp
    rw [List.getD_eq_getElem?_getD, e]
    rfl
  rw [this]

/-- has some number this text? -/
abbrev okText (s : ByteArray) : Prop := 0 < s.size ∧ ¬ (1 < s.size ∧ bt s 0 = 48) ∧ ∀ i, i < s.size → 48 ≤ bt s i ∧ bt s i ≤ 57

theorem ne_empty {s : ByteArray} (h : 0 < s.size) : s.toList.isEmpty = false := by
  rw [ByteArray.toList_eq]
  have : 0 < s.data.toList.length := by rw [Array.length_toList]; exact h
  cases hq : s.data.toList with
  | nil => rw [hq] at this; simp at this
  | cons x r => rfl

theorem is_empty {s : ByteArray} (h : s.size = 0) : s.toList.isEmpty = true := by
  rw [ByteArray.toList_eq]
  have : s.data.toList.length = 0 := by rw [Array.length_toList]; exact h
  rw [List.eq_nil_of_length_eq_zero this]; rfl

set_option maxRecDepth 100000 in
set_option maxHeartbeats 1600000 in
theorem isText_yes (s : ByteArray) (w : World) (hs : s.size ≤ 9223372036854775807) (hok : okText s) :
    Calls Tryd.prog 62 #[.string s] w fun e w' => e = .returned (.bool true) ∧ w = w' := by
  obtain ⟨h0, h1, h2⟩ := hok
  have e0 := bt_eq s 0 h0
  have H2 := hide h2
  have hne := ne_empty h0
  by_cases h11 : 1 < s.size
  · have hb0 : (((s[0]'h0).toNat : Int) == 48) = false := by
      rw [beq_eq_false_iff_ne]
      intro h
      exact h1 ⟨h11, by omega⟩
    have hd1 : decide ((1 : Int) < (s.size : Int)) = true := by simp; omega
    clear h1 h2 e0
    go_enter Tryd.func62, Tryd.ntmps62
    go_wp2
    go_loop [18] (fun i => ∃ k : Nat, k ≤ s.size ∧ i = .int .i64 k) (fun i => s.size - (intOf i).toNat)
    case atStart => exact ⟨0, Nat.zero_le _, rfl⟩
    case round =>
      obtain ⟨k, hk, rfl⟩ := hrel
      by_cases hkl : k < s.size
      · have hb := (unhide H2) k hkl
        rw [bt_eq s k hkl] at hb
        have hk1 : decide (((s[k]'hkl).toNat : Int) < 48) = false := by simp; omega
        have hk2 : decide ((57 : Int) < ((s[k]'hkl).toNat : Int)) = false := by simp; omega
        clear hb
        go_wp2
        exact ⟨⟨k + 1, by omega, by go_num⟩, by simp [intOf]; omega⟩
      · go_wp2
        go_ret
        exact ⟨rfl, rfl⟩
  · have hd1 : decide ((1 : Int) < (s.size : Int)) = false := by simp; omega
    clear h1 h2 e0
    go_enter Tryd.func62, Tryd.ntmps62
    go_wp2
    go_loop [18] (fun i => ∃ k : Nat, k ≤ s.size ∧ i = .int .i64 k) (fun i => s.size - (intOf i).toNat)
    case atStart => exact ⟨0, Nat.zero_le _, rfl⟩
    case round =>
      obtain ⟨k, hk, rfl⟩ := hrel
      by_cases hkl : k < s.size
      · have hb := (unhide H2) k hkl
        rw [bt_eq s k hkl] at hb
        have hk1 : decide (((s[k]'hkl).toNat : Int) < 48) = false := by simp; omega
        have hk2 : decide ((57 : Int) < ((s[k]'hkl).toNat : Int)) = false := by simp; omega
        clear hb
        go_wp2
        exact ⟨⟨k + 1, by omega, by go_num⟩, by simp [intOf]; omega⟩
      · go_wp2
        go_ret
        exact ⟨rfl, rfl⟩

set_option maxRecDepth 100000 in
set_option maxHeartbeats 1600000 in
theorem isText_no (s : ByteArray) (w : World) (hs : s.size ≤ 9223372036854775807) (hok : ¬ okText s) :
    Calls Tryd.prog 62 #[.string s] w fun e w' => e = .returned (.bool false) ∧ w = w' := by
  by_cases h0 : s.size = 0
  · have hne := is_empty h0
    clear hok
    go_enter Tryd.func62, Tryd.ntmps62
    go_wp2
    go_ret
    exact ⟨rfl, rfl⟩
  · have hpos : 0 < s.size := by omega
    have hne := ne_empty hpos
    have e0 := bt_eq s 0 hpos
    have HP := hide h0
    clear h0
    by_cases h1 : 1 < s.size ∧ bt s 0 = 48
    · have h11 := h1.1
      have hb0 : (((s[0]'hpos).toNat : Int) == 48) = true := by
        rw [beq_iff_eq]
        have := h1.2
        omega
      have hd1 : decide ((1 : Int) < (s.size : Int)) = true := by simp; omega
      clear hok h1 e0
      go_enter Tryd.func62, Tryd.ntmps62
      go_wp2
      go_ret
      exact ⟨rfl, rfl⟩
    · have hbad : Hid (¬ ∀ i, i < s.size → 48 ≤ bt s i ∧ bt s i ≤ 57) := fun h => hok ⟨hpos, h1, h⟩
      by_cases h11 : 1 < s.size
      all_goals
        first
        | (have hb0 : (((s[0]'hpos).toNat : Int) == 48) = false := by (rw [beq_eq_false_iff_ne]; intro h; exact h1 ⟨h11, by omega⟩)
           have hd1 : decide ((1 : Int) < (s.size : Int)) = true := by (simp; omega))
        | have hd1 : decide ((1 : Int) < (s.size : Int)) = false := by (simp; omega)
        clear hok h1 e0
        go_enter Tryd.func62, Tryd.ntmps62
        go_wp2
        go_loop [18] (fun i => ∃ k : Nat, k ≤ s.size ∧ i = .int .i64 k ∧ ∀ j, j < k → 48 ≤ bt s j ∧ bt s j ≤ 57) (fun i => s.size - (intOf i).toNat)
        case atStart => exact ⟨0, Nat.zero_le _, rfl, fun j hj => absurd hj (by omega)⟩
        case round =>
          obtain ⟨k, hk, rfl, hg⟩ := hrel
          have HG := hide hg
          clear hg
          by_cases hkl : k < s.size
          · have ek := bt_eq s k hkl
            by_cases hc1 : bt s k < 48
            · have hk1 : decide (((s[k]'hkl).toNat : Int) < 48) = true := by simp; omega
              clear ek hc1
              go_wp2
              go_ret
              exact ⟨rfl, rfl⟩
            · by_cases hc2 : 57 < bt s k
              · have hk1 : decide (((s[k]'hkl).toNat : Int) < 48) = false := by simp; omega
                have hk2 : decide ((57 : Int) < ((s[k]'hkl).toNat : Int)) = true := by simp; omega
                clear ek hc1 hc2
                go_wp2
                go_ret
                exact ⟨rfl, rfl⟩
              · have hk1 : decide (((s[k]'hkl).toNat : Int) < 48) = false := by simp; omega
                have hk2 : decide ((57 : Int) < ((s[k]'hkl).toNat : Int)) = false := by simp; omega
                have HN := hide (show 48 ≤ bt s k ∧ bt s k ≤ 57 from by omega)
                clear ek hc1 hc2
                go_wp2
                exact ⟨⟨k + 1, by omega, by go_num, fun j hj => (by by_cases e : j = k; { rw [e]; exact unhide HN }; { exact (unhide HG) j (by omega) })⟩, by simp [intOf]; omega⟩
          · exact absurd (fun i hi => (unhide HG) i (by omega)) (unhide hbad)
end Go.Proofs.YtndhjoofbkgkiaaDoor

namespace Go.Proofs.YtndhjoofbkgkiaaDoor
open Go.RowKit

/-- the number of k digits from place a on -/
def dr (s : ByteArray) (a : Nat) : Nat → Nat
 | 0 => 0
 | k + 1 => dr s a k * 10 + (bt s (a + k) - 48)

theorem dr_lt (s : ByteArray) (a : Nat) (k : Nat) (h : ∀ i, i < k → bt s (a + i) ≤ 57) : dr s a k < 10 ^ k := by
 induction k with
 | zero => simp [dr]
 | succ k ih =>
  have h1 := ih (fun i hi => h i (by omega))
  have h2 := h k (by omega)
  simp only [dr, Nat.pow_succ]
  omega

theorem dr_add (s : ByteArray) (a m k : Nat) : dr s a (m + k) = dr s a m * 10 ^ k + dr s (a + m) k := by
 induction k with
 | zero => simp [dr]
 | succ k ih =>
  rw [← Nat.add_assoc]
  simp only [dr, ih, Nat.pow_succ]
  rw [Nat.add_mul, Nat.mul_assoc, Nat.add_assoc a m k]
  omega

theorem dr_congr {s t : ByteArray} {a b k : Nat} (h : ∀ i, i < k → bt s (a + i) = bt t (b + i)) : dr s a k = dr t b k := by
 induction k with
 | zero => rfl
 | succ k ih => simp only [dr, ih (fun i hi => h i (by omega)), h k (by omega)]

theorem pow_le9 {k : Nat} (h : k ≤ 8) : 10 ^ k ≤ 100000000 := by
 have : 10 ^ k ≤ 10 ^ 8 := Nat.pow_le_pow_right (by decide) h
 simpa using this

set_option maxRecDepth 100000 in
set_option maxHeartbeats 1600000 in
theorem value_any (s : ByteArray) (w : World) (hs : s.size ≤ 9) (hd : ∀ i, i < s.size → 48 ≤ bt s i ∧ bt s i ≤ 57) :
  Calls Tryd.prog 64 #[.string s] w fun e w' => e = .returned (.int .u32 (dr s 0 s.size)) ∧ w = w' := by
 have HD := hide hd
 clear hd
 go_enter Tryd.func64, Tryd.ntmps64
 go_wp2
 go_loop [3, 7] (fun n i => ∃ k : Nat, k ≤ s.size ∧ i = .int .i64 k ∧ n = .int .u32 (dr s 0 k)) (fun _ i => s.size - (intOf i).toNat)
 case atStart => exact ⟨0, Nat.zero_le _, rfl, rfl⟩
 case round =>
  obtain ⟨k, hk, rfl, rfl⟩ := hrel
  by_cases hkl : k < s.size
  ·have hb := (unhide HD) k hkl
   have hlt := dr_lt s 0 k (fun i hi => ((unhide HD) (0 + i) (by omega)).2)
   have h8 := pow_le9 (k := k) (by omega)
   have hnew := hide (show dr s 0 (k + 1) = dr s 0 k * 10 + (bt s k - 48) from by simp [dr])
   rw [bt_eq s k hkl] at hb hnew
   generalize dr s 0 k = d at *
   go_wp2
   exact ⟨⟨k + 1, by omega, by go_num, by rw [unhide hnew]; congr 1; omega⟩, by simp [intOf]; omega⟩
  ·obtain rfl : k = s.size := by omega
   go_wp2
   go_ret
   exact ⟨rfl, rfl⟩

set_option maxRecDepth 100000 in
set_option maxHeartbeats 1600000 in
theorem times_out {w0 w : World} {ad : Option Addr} {n cap : Nat} {X : List Int} {f p : Int} (h : Out w0 w ad n cap X) (hbig : n ≤ 1099511627776) (hf0 : 0 ≤ f) (hf1 : f < 4294967296) (hp0 : 0 ≤ p) (hp1 : p < 4294967296) :
  Calls Tryd.prog 63 #[.slice ad n cap, .int .u32 f, .int .u32 p] w fun e w' => ∃ Y cr, e = .returned (.int .u32 cr) ∧ 0 ≤ cr ∧ cr < 4294967296 ∧ Out w0 w' ad n cap Y ∧ val Y + cr * pw n = val X * f + p ∧ w'.heap.size = w.heap.size ∧ (∀ k, blk ad ≠ some k → w'.heap[k]? = w.heap[k]?) := by
 obtain ⟨hB, ⟨rfl, rfl, rfl, rfl⟩ | ⟨b, zs, rfl, hb, hr, hlz, hzl, hle, hm, rfl⟩⟩ := h
 ·go_enter Tryd.func63, Tryd.ntmps63
  go_wp2
  refine wp_loop_rounds 1 ?_
  rw [rounds_succ]
  go_wp2
  go_ret
  refine ⟨[], p, rfl, hp0, hp1, ⟨hB, .inl ⟨rfl, rfl, rfl, rfl⟩⟩, ?_, rfl, fun _ _ => rfl⟩
  simp [val, vl, pw]
 ·go_enter Tryd.func63, Tryd.ntmps63
  go_wp2
  go_loopw [7, 13] (fun c i wr => ∃ (k : Nat) (cr : Int) (zk : List Int), k ≤ n ∧ i = .int .i64 k ∧ c = .int .u64 cr ∧ 0 ≤ cr ∧ cr < 4294967296 ∧ zk.length = cap ∧ Limbs zk ∧ Row wr b zk ∧ Only b w wr ∧ (∀ t, k ≤ t → lz zk t = lz zs t) ∧ vl zk k + cr * pw k = vl zs k * f + p) (fun _ i _ => n - (intOf i).toNat)
  case atStart => exact ⟨0, p, zs, Nat.zero_le _, rfl, rfl, hp0, hp1, hzl, hlz, hr, Only.refl _ _, fun _ _ => rfl, by simp [vl, pw]⟩
  case round =>
   obtain ⟨k, cr, zk, hk, rfl, rfl, hc0, hc1, hkl, hkL, hrow, honly, hsame, hv⟩ := hrel
   have HV := hide hv
   have HS := hide hsame
   clear hv hsame
   by_cases hkn : k < n
   ·have q := hrow.rd hkL (off := 0) (len := n) (cap := cap) (by omega) hle hm
    have hcell := hrow.cell (i := k) (by omega)
    have hfr := hrow.frozen k
    go_wp2_with fail
    refine (limb_any q (k : Int) (by omega) (by omega)).mono ?_
    rintro e w' ⟨rfl, rfl⟩
    rw [Int.toNat_natCast, List.drop_zero, lz_take, if_pos hkn]
    have B1 := lz_bd hkL k
    have B4 := mul_bd B1.1 B1.2 hf0 hf1
    have HN : Hid (vl (zk.set k ((cr + lz zk k * f) % 4294967296)) (k + 1) + ((cr + lz zk k * f) / 4294967296) * pw (k + 1) = vl zs (k + 1) * f + p) := by
     show _ = _
     rw [carry_step (by omega) (unhide HV), vl_succ, (unhide HS) k (Nat.le_refl _), Int.add_mul, Int.mul_right_comm]
     omega
    clear HV q
    go_wp2_with fail
    rw [mask64 _ (by omega) (by omega), Int.emod_emod_of_dvd _ (Int.dvd_refl _)]
    exact ⟨⟨k + 1, _, _, by omega, by go_num, rfl, by omega, by omega, by rw [List.length_set]; exact hkl, hkL.set k (by omega) (by omega), hrow.set k _, honly.trans (Only.set b k wr _), fun t ht => by rw [lz_set _ _ _ _ (by omega), if_neg (by omega)]; exact (unhide HS) t (by omega), unhide HN⟩, by simp [intOf]; omega⟩
   ·obtain rfl : k = n := by omega
    go_wp2_with fail
    go_ret
    refine ⟨zk.take k, cr, rfl, hc0, hc1, ⟨hB.trans (honly.below hb), .inr ⟨b, zk, rfl, hb, hrow, hkL, hkl, hle, hm, rfl⟩⟩, ?_, honly.size, fun j hj => honly.block j (fun e => hj (by simp [blk, e]))⟩
    rw [val_take _ _ (by omega), val_take _ _ (by omega)]
    exact unhide HV

theorem bt_extract (s : ByteArray) (a b i : Nat) (hb : b ≤ s.size) (hi : a + i < b) : bt (s.extract a b) i = bt s (a + i) := by
 unfold bt
 have e : (s.extract a b).data = s.data.extract a b := by simp [ByteArray.data_extract]
 rw [e]
 have h2 : b ≤ s.data.size := hb
 have e2 : (s.data.extract a b).toList.getD i 0 = s.data.toList.getD (a + i) 0 := by
  simp only [List.getD_eq_getElem?_getD, Array.toList_extract, List.extract_eq_take_drop, List.getElem?_take, List.getElem?_drop]
  rw [if_pos (by omega)]
 rw [e2]

theorem val_snoc (Y : List Int) (cr : Int) : val (Y ++ [cr]) = val Y + cr * pw Y.length := by
 unfold val
 rw [List.length_append, List.length_singleton, vl_succ]
 have e1 : vl (Y ++ [cr]) Y.length = vl Y Y.length := vl_congr (fun i hi => by simp [lz, List.getD, List.getElem?_append_left hi])
 rw [e1, lz_snoc]

theorem dr_first (s : ByteArray) (m c : Nat) (h : m = 0 ∨ c = 9) : dr s 0 (m + c) = dr s 0 m * 1000000000 + dr s m c := by
 rw [dr_add, Nat.zero_add]
 rcases h with rfl | rfl
 ·simp [dr]
 ·rfl

theorem dr_pw (s : ByteArray) (k : Nat) (h : ∀ i, i < k → bt s (0 + i) ≤ 57) : (dr s 0 k : Int) < pw k := by
 have h1 := dr_lt s 0 k h
 have h2 : ((10 ^ k : Nat) : Int) ≤ pw k := by
  clear h h1
  induction k with
  | zero => decide
  | succ k ih => rw [Nat.pow_succ, pw_succ]; omega
 omega

theorem canon_len {zs : List Int} (h : Canon zs) {k : Nat} (hv : val zs < pw k) : zs.length ≤ k := by
 rcases Nat.lt_or_ge k zs.length with h1 | h1
 ·have h2 := canon_low h (by omega)
  have h3 : pw k ≤ pw (zs.length - 1) := pw_mono (by omega)
  omega
 ·exact h1

set_option maxRecDepth 100000 in
set_option maxHeartbeats 1600000 in
theorem parse_no (s : ByteArray) (w : World) (hs : s.size ≤ 9223372036854775807) (hok : ¬ okText s) :
  Calls Tryd.prog 43 #[.string s] w fun e w' => e = .returned (.tuple #[.slice none 0 0, .int .i64 12]) ∧ w = w' := by
 have HOK := hide hok
 clear hok
 go_enter Tryd.func43, Tryd.ntmps43
 go_wp2_with fail
 refine (isText_no s w hs (unhide HOK)).mono ?_
 rintro e w' ⟨rfl, rfl⟩
 go_wp2_with fail
 go_ret2
 exact ⟨rfl, rfl⟩

set_option maxRecDepth 100000 in
set_option maxHeartbeats 1600000 in
theorem parse_yes (s : ByteArray) (w : World) (hs : s.size ≤ 1099511627776) (hok : okText s) :
  Calls Tryd.prog 43 #[.string s] w fun e w' => ∃ ad len cap zs, e = .returned (.tuple #[.slice ad len cap, .int .i64 0]) ∧ Out w w' ad len cap zs ∧ Canon zs ∧ val zs = (dr s 0 s.size : Int) ∧ len ≤ s.size := by
 have HOK := hide hok
 clear hok
 go_enter Tryd.func43, Tryd.ntmps43
 go_wp2_with fail
 refine (isText_yes s w (by omega) (unhide HOK)).mono ?_
 rintro e w' ⟨rfl, rfl⟩
 go_wp2_with fail
 go_loopw [4, 5] (fun v i wr => ∃ (k : Nat) (ad : Option Addr) (n cap : Nat) (zs : List Int), k ≤ s.size ∧ i = .int .i64 k ∧ v = .slice ad n cap ∧ Out w wr ad n cap zs ∧ Canon zs ∧ val zs = (dr s 0 k : Int) ∧ n ≤ k ∧ (k = 0 ∨ (s.size - k) % 9 = 0)) (fun _ i _ => s.size - (intOf i).toNat)
 case atStart => exact ⟨0, none, 0, 0, [], Nat.zero_le _, rfl, rfl, out_none w, canon_nil, rfl, Nat.le_refl _, .inl rfl⟩
 case round =>
  obtain ⟨k, ad, n, cap, zs, hk, rfl, rfl, ho, hc, hv, hn, hmod⟩ := hrel
  have HV := hide hv
  have HM := hide hmod
  clear hv hmod
  by_cases hkl : k < s.size
  ·obtain ⟨c, hc9⟩ : ∃ c, c = (s.size - k - 1) % 9 + 1 := ⟨_, rfl⟩
   have hcb : 1 ≤ c ∧ c ≤ 9 ∧ k + c ≤ s.size := by omega
   have hto : Hid ((k : Int) + ((s.size : Int) - (k : Int) - 1) % 9 + 1 = ((k + c : Nat) : Int)) := by
    show _ = _
    omega
   have hfc := hide (show k = 0 ∨ c = 9 from by
    rcases unhide HM with h | h
    ·exact .inl h
    ·exact .inr (by omega))
   have hmod' := hide (show (s.size - (k + c)) % 9 = 0 from by omega)
   have hsl : ∀ u : World, (Instr.slice 9 (.string s) (some (.int .i64 (k : Int))) (some (.int .i64 ((k : Int) + ((s.size : Int) - (k : Int) - 1) % 9 + 1))) none).run Tryd.prog u = .ok (.string (s.extract k (k + c))) u := fun u => by
    have := run_slice_string (P := Tryd.prog) u 9 s .i64 .i64 (k : Int) ((k : Int) + ((s.size : Int) - (k : Int) - 1) % 9 + 1) Tryd.underlying9 (by omega) (by omega) (by omega)
    rw [this, unhide hto, Int.toNat_natCast, Int.toNat_natCast]
   have hsx : (s.extract k (k + c)).size = c := by rw [ByteArray.size_extract]; omega
   have hdg : ∀ i, i < (s.extract k (k + c)).size → 48 ≤ bt (s.extract k (k + c)) i ∧ bt (s.extract k (k + c)) i ≤ 57 := fun i hi => by
    rw [bt_extract s k (k + c) i (by omega) (by omega)]
    exact (unhide HOK).2.2 (k + i) (by omega)
   have hdx : Hid (dr (s.extract k (k + c)) 0 (s.extract k (k + c)).size = dr s k c) := by
    show _ = _
    rw [hsx]
    exact dr_congr (fun i hi => by rw [Nat.zero_add, bt_extract s k (k + c) i (by omega) (by omega)])
   have hdl : dr s k c < 10 ^ c := dr_lt s k c (fun i hi => ((unhide HOK).2.2 (k + i) (by omega)).2)
   have hdb : dr s k c < 1000000000 := by
    have : 10 ^ c ≤ 10 ^ 9 := Nat.pow_le_pow_right (by decide) (by omega)
    simp at this
    omega
   have hval := hide (dr_first s k c (unhide hfc))
   have hpwc := hide (dr_pw s (k + c) (fun i hi => ((unhide HOK).2.2 (0 + i) (by omega)).2))
   have hsx9 : (s.extract k (k + c)).size ≤ 9 := by omega
   have HDG := hide hdg
   clear hc9 hdl hsx hdg
   go_wp2_with fail
   refine (value_any _ wr hsx9 (unhide HDG)).mono ?_
   rintro e w' ⟨rfl, rfl⟩
   rw [unhide hdx]
   generalize hgv : dr s k c = g at *
   have HG := hide hgv
   clear hgv
   go_wp2_with fail
   refine (times_out (f := 1000000000) (p := (g : Int)) ho (by omega) (by decide) (by decide) (by omega) (by omega)).mono ?_
   rintro e w2 ⟨Y, cr, rfl, hcr0, hcr1, hoY, hvY, hsz2, hfr2⟩
   have HVY := hide hvY
   have hYl := hide hoY.rd.1
   clear hvY hsz2 hfr2 hsl
   go_wp2_with (at_builtin; refine wpList_append_run rfl _ _ 22 rfl _ _ rfl rfl _ (run_append_one hoY _ cr hcr0 hcr1 (by omega)) ?_; rintro v' w3 ⟨ad', cap', rfl, ho3, hfr3, hsz3, hbk3⟩)
   clear hfr3 hbk3 hsz3
   refine (bare_out ho3).mono ?_
   rintro e w4 ⟨rfl, rfl⟩
   obtain ⟨ho4, hc4⟩ := ho3.trimmed
   have hv4 : Hid (val (trim (Y ++ [cr])) = (dr s 0 (k + c) : Int)) := by
    show _ = _
    have e1 := unhide HVY
    have e2 := unhide HV
    have e3 := unhide hval
    rw [val_trim, val_snoc, unhide hYl, e1, e2]
    omega
   have hn4 : Hid (tl (Y ++ [cr]) (n + 1) ≤ k + c) := by
    show _ ≤ _
    rw [← ho4.rd.1]
    exact canon_len hc4 (by rw [unhide hv4]; exact unhide hpwc)
   have HO4 := hide ho4
   have HC4 := hide hc4
   clear ho3 ho4 hc4
   go_wp2_with fail
   go_roundw
   case rel => exact ⟨k + c, _, _, _, _, by omega, by rw [← unhide hto], rfl, unhide HO4, unhide HC4, unhide hv4, unhide hn4, .inr (unhide hmod')⟩
   case measure => simp [intOf]; omega
  ·obtain rfl : k = s.size := by omega
   go_wp2_with fail
   go_ret2
   exact ⟨_, _, _, _, rfl, ho, hc, unhide HV, hn⟩
end Go.Proofs.YtndhjoofbkgkiaaDoor

namespace Go.Proofs.YtndhjoofbkgkiaaDoor
open Go.RowKit

/-- the slice reads as some limbs of the number n -/
def Nm (w : World) (ad : Option Addr) (len cap : Nat) (n : Int) : Prop := ∃ zs, Rd w ad len cap zs ∧ val zs = n
/-- .. without noughts at the end -/
def Cn (w : World) (ad : Option Addr) (len cap : Nat) (n : Int) : Prop := ∃ zs, Rd w ad len cap zs ∧ Canon zs ∧ val zs = n

theorem Cn.nm {w : World} {ad : Option Addr} {len cap : Nat} {n : Int} (h : Cn w ad len cap n) : Nm w ad len cap n := by
 obtain ⟨zs, h1, _, h3⟩ := h; exact ⟨zs, h1, h3⟩
theorem Nm.below {w w' : World} {ad : Option Addr} {len cap : Nat} {n : Int} (h : Nm w ad len cap n) (hb : Below w.heap.size w w') : Nm w' ad len cap n := by
 obtain ⟨zs, h1, h3⟩ := h; exact ⟨zs, h1.below hb, h3⟩
theorem Cn.below {w w' : World} {ad : Option Addr} {len cap : Nat} {n : Int} (h : Cn w ad len cap n) (hb : Below w.heap.size w w') : Cn w' ad len cap n := by
 obtain ⟨zs, h1, h2, h3⟩ := h; exact ⟨zs, h1.below hb, h2, h3⟩
theorem Nm.nonneg {w : World} {ad : Option Addr} {len cap : Nat} {n : Int} (h : Nm w ad len cap n) : 0 ≤ n := by
 obtain ⟨zs, h1, rfl⟩ := h; exact val_nonneg h1.2.2.2.1
theorem out_cn {w w' : World} {ad : Option Addr} {len cap : Nat} {zs : List Int} {n : Int} (h : Out w w' ad len cap zs) (hc : Canon zs) (hv : val zs = n) : Cn w' ad len cap n := ⟨zs, h.rd, hc, hv⟩

theorem add_n {a1 a2 : Option Addr} {l1 c1 l2 c2 : Nat} {m n : Int} {w : World} (h1 : Nm w a1 l1 c1 m) (h2 : Nm w a2 l2 c2 n) (hl1 : l1 ≤ 1099511627776) (hl2 : l2 ≤ 1099511627776) :
  Calls Tryd.prog 14 #[.slice a1 l1 c1, .slice a2 l2 c2] w fun e w' => ∃ ad len cap, e = .returned (.slice ad len cap) ∧ Cn w' ad len cap (m + n) ∧ Below w.heap.size w w' ∧ len ≤ max l1 l2 + 1 := by
 obtain ⟨xs, h1, rfl⟩ := h1
 obtain ⟨ys, h2, rfl⟩ := h2
 refine (add_any h1 h2 hl1 hl2).mono ?_
 rintro e w' ⟨ad, len, cap, zs, rfl, ho, hc, hv, hl⟩
 exact ⟨ad, len, cap, rfl, out_cn ho hc hv, ho.1, hl⟩

theorem mul_n {a1 a2 : Option Addr} {l1 c1 l2 c2 : Nat} {m n : Int} {w : World} (h1 : Nm w a1 l1 c1 m) (h2 : Nm w a2 l2 c2 n) (hl1 : l1 ≤ 1099511627776) (hl2 : l2 ≤ 1099511627776) :
  Calls Tryd.prog 20 #[.slice a1 l1 c1, .slice a2 l2 c2] w fun e w' => ∃ ad len cap, e = .returned (.slice ad len cap) ∧ Cn w' ad len cap (m * n) ∧ Below w.heap.size w w' ∧ len ≤ l1 + l2 := by
 obtain ⟨xs, h1, rfl⟩ := h1
 obtain ⟨ys, h2, rfl⟩ := h2
 refine (mul_any h1 h2 hl1 hl2).mono ?_
 rintro e w' ⟨ad, len, cap, zs, rfl, ho, hc, hv, hl⟩
 exact ⟨ad, len, cap, rfl, out_cn ho hc hv, ho.1, hl⟩

theorem sub_n {a1 a2 : Option Addr} {l1 c1 l2 c2 : Nat} {m n : Int} {w : World} (h1 : Nm w a1 l1 c1 m) (h2 : Nm w a2 l2 c2 n) (hl1 : l1 ≤ 1099511627776) (hge : n ≤ m) :
  Calls Tryd.prog 9 #[.slice a1 l1 c1, .slice a2 l2 c2] w fun e w' => ∃ ad len cap, e = .returned (.tuple #[.slice ad len cap, .int .i64 0]) ∧ Cn w' ad len cap (m - n) ∧ Below w.heap.size w w' ∧ len ≤ l1 := by
 obtain ⟨xs, h1, rfl⟩ := h1
 obtain ⟨ys, h2, rfl⟩ := h2
 refine (sub_any h1 h2 hl1 hge).mono ?_
 rintro e w' ⟨ad, len, cap, zs, rfl, ho, hc, hv, hl⟩
 exact ⟨ad, len, cap, rfl, out_cn ho hc hv, ho.1, hl⟩

theorem of_n (n : Int) (h0 : 0 ≤ n) (h1 : n < 18446744073709551616) (w : World) :
  Calls Tryd.prog 42 #[.int .u64 n] w fun e w' => ∃ ad len cap, e = .returned (.slice ad len cap) ∧ Cn w' ad len cap n ∧ Below w.heap.size w w' ∧ len ≤ 2 := by
 refine (of_any n h0 h1 w).mono ?_
 rintro e w' ⟨ad, len, cap, zs, rfl, ho, hc, hv, hl⟩
 exact ⟨ad, len, cap, rfl, out_cn ho hc hv, ho.1, hl⟩

theorem same_n {a1 a2 : Option Addr} {l1 c1 l2 c2 : Nat} {m n : Int} {w : World} (h1 : Cn w a1 l1 c1 m) (h2 : Cn w a2 l2 c2 n) :
  Calls Tryd.prog 40 #[.slice a1 l1 c1, .slice a2 l2 c2] w fun e w' => e = .returned (.bool (decide (m = n))) ∧ Below w.heap.size w w' := by
 obtain ⟨xs, h1, k1, rfl⟩ := h1
 obtain ⟨ys, h2, k2, rfl⟩ := h2
 refine (same_any h1 h2).mono ?_
 rintro e w' ⟨rfl, q, rfl⟩
 refine ⟨ret_bool ?_, below_drewN _ _ _⟩
 by_cases h : xs = ys
 ·subst h; simp
 ·rw [decide_eq_false h, eq_comm, decide_eq_false_iff_not]
  exact fun hv => h (canon_inj k1 k2 hv)

/-- two canonical readings of one number are the same -/
theorem same_t {a1 a2 : Option Addr} {l1 c1 l2 c2 : Nat} {m n : Int} {w : World} (h1 : Cn w a1 l1 c1 m) (h2 : Cn w a2 l2 c2 n) (he : m = n) :
  Calls Tryd.prog 40 #[.slice a1 l1 c1, .slice a2 l2 c2] w fun e w' => e = .returned (.bool true) ∧ Below w.heap.size w w' := by
 refine (same_n h1 h2).mono ?_
 rintro e w' ⟨rfl, hb⟩
 exact ⟨ret_bool (by simp [he]), hb⟩

theorem text_n {a1 : Option Addr} {l1 c1 : Nat} {n : Int} {w : World} (h1 : Nm w a1 l1 c1 n) (hl : l1 ≤ 1099511627776) (htab : Tab w) :
  Calls Tryd.prog 44 #[.slice a1 l1 c1] w fun e w' => e = .returned (.string ⟨(Lib.decDigits n.toNat).toArray⟩) ∧ Below w.heap.size w w' := by
 obtain ⟨xs, h1, rfl⟩ := h1
 exact text_any h1 hl htab

theorem parse_n (s : ByteArray) (w : World) (hs : s.size ≤ 1099511627776) (hok : okText s) :
  Calls Tryd.prog 43 #[.string s] w fun e w' => ∃ ad len cap, e = .returned (.tuple #[.slice ad len cap, .int .i64 0]) ∧ Cn w' ad len cap (dr s 0 s.size : Int) ∧ Below w.heap.size w w' ∧ len ≤ s.size := by
 refine (parse_yes s w hs hok).mono ?_
 rintro e w' ⟨ad, len, cap, zs, rfl, ho, hc, hv, hl⟩
 exact ⟨ad, len, cap, rfl, out_cn ho hc hv, ho.1, hl⟩

theorem tl_one_of {ys : List Int} {l2 : Nat} (hl : ys.length = l2) (hL : Limbs ys) (h0 : 0 < val ys) (h1 : val ys < 4294967296) : tl ys l2 = 1 := by
 have h2 := trim_length ys
 rw [hl] at h2
 have hc := canon_trim hL
 have hv := val_trim ys
 have h3 := canon_len hc (k := 1) (by rw [hv]; simpa [pw] using h1)
 have h4 : trim ys ≠ [] := fun h => by rw [h] at hv; have : val [] = 0 := rfl; omega
 have h5 : 0 < (trim ys).length := List.length_pos_iff.2 h4
 omega

theorem divmod_n1 {a1 a2 : Option Addr} {l1 c1 l2 c2 : Nat} {m n : Int} {w : World} (h1 : Nm w a1 l1 c1 m) (h2 : Nm w a2 l2 c2 n) (hl1 : l1 ≤ 1099511627776) (hn0 : 0 < n) (hn1 : n < 4294967296) (hge : n ≤ m) :
  Calls Tryd.prog 17 #[.slice a1 l1 c1, .slice a2 l2 c2] w fun e w' => ∃ aq lq cq ar lr cr, e = .returned (.tuple #[.slice aq lq cq, .slice ar lr cr, .int .i64 0]) ∧ Cn w' aq lq cq (m / n) ∧ Cn w' ar lr cr (m % n) ∧ Below w.heap.size w w' ∧ lq ≤ l1 ∧ lr ≤ 2 := by
 obtain ⟨xs, h1, rfl⟩ := h1
 obtain ⟨ys, h2, rfl⟩ := h2
 refine (divmod_limb h1 h2 hl1 hge (tl_one_of h2.1 h2.2.2.2.1 hn0 hn1)).mono ?_
 rintro e w' ⟨aq, lq, cq, zq, ar, lr, cr, zr, rfl, hoq, hcq, hvq, hor, hcr, hvr, hlq, hlr, _⟩
 exact ⟨aq, lq, cq, ar, lr, cr, rfl, out_cn hoq hcq hvq, out_cn hor hcr hvr, hoq.1, hlq, hlr⟩

/-- a literal list of limbs -/
theorem cn_lit (w : World) (xs : List Int) (n : Nat) (hn : xs.length = n) (hc : Canon xs) (hb : n ≤ 9223372036854775807) : Cn (w.alloc (.cells (U xs) 49)) (some ⟨w.heap.size, 0, none⟩) n n (val xs) := by
 have h := (row_alloc w xs).rd hc.1 (off := 0) (len := n) (cap := n) (by omega) (Nat.le_refl _) hb
 rw [List.drop_zero, List.take_of_length_le (by omega)] at h
 exact ⟨xs, h, hc, rfl⟩

theorem below_alloc (w : World) (o : Obj) : Below w.heap.size w (w.alloc o) := (Below.refl _ _).alloc (Nat.le_refl _) _

theorem known_text : Lib.decDigits 42949672960 = [52, 50, 57, 52, 57, 54, 55, 50, 57, 54, 48] := by
 have h := dec_pad 9 42 949672960 (by decide) (by decide)
 rw [show 42 * 10 ^ 9 + 949672960 = 42949672960 from rfl, dec_step 42 (by decide), dec_small (42 / 10) (by decide)] at h
 rw [h]
 decide

def knownS : ByteArray := ⟨#[52, 50, 57, 52, 57, 54, 55, 50, 57, 54, 48]⟩
theorem known_ok : okText knownS := by
 refine ⟨by decide, by decide, ?_⟩
 have : ∀ i, i < 11 → 48 ≤ bt knownS i ∧ bt knownS i ≤ 57 := by decide
 exact this
theorem known_dr : dr knownS 0 knownS.size = 42949672960 := by decide

theorem known_c1 : Canon [0, 10] := ⟨fun z hz => by simp at hz; rcases hz with rfl | rfl <;> decide, by decide⟩
theorem known_c2 : Canon [1431655765, 3] := ⟨fun z hz => by simp at hz; rcases hz with rfl | rfl <;> decide, by decide⟩
theorem known_c3 : Canon [1] := ⟨fun z hz => by simp at hz; subst hz; decide, by decide⟩

set_option maxRecDepth 100000 in
set_option maxHeartbeats 1600000 in
theorem known_any (w : World) (htab : Tab w) :
  Calls Tryd.prog 16 #[] w fun e w' => e = .returned (.bool true) ∧ Below w.heap.size w w' := by
 go_enter Tryd.func16, Tryd.ntmps16
 go_wp2_with fail
 refine (of_n 4294967296 (by decide) (by decide) w).mono ?_
 rintro e w1 ⟨a1, l1, c1, rfl, n1, b1, k1⟩
 go_wp2_with fail
 refine (of_n 10 (by decide) (by decide) w1).mono ?_
 rintro e w2 ⟨a2, l2, c2, rfl, n2, b2, k2⟩
 replace n1 := n1.below b2
 replace b2 := b1.trans (b2.mono b1.size)
 clear b1
 go_wp2_with fail
 refine (mul_n n1.nm n2.nm (by omega) (by omega)).mono ?_
 rintro e w3 ⟨ap, lp, cp, rfl, np, b3, kp⟩
 replace b3 := b2.trans (b3.mono b2.size)
 clear b2 n1 n2
 go_wp2_with fail
 refine (of_n 3 (by decide) (by decide) w3).mono ?_
 rintro e w4 ⟨a3, l3, c3, rfl, n3, b4, k3⟩
 replace np := np.below b4
 replace b4 := b3.trans (b4.mono b3.size)
 clear b3
 go_wp2_with fail
 refine (divmod_n1 np.nm n3.nm (by omega) (by decide) (by decide) (by decide)).mono ?_
 rintro e w5 ⟨aq, lq, cq, ar, lr, cr, rfl, nq, nr, b5, kq, kr⟩
 replace np := np.below b5
 replace b5 := b4.trans (b5.mono b4.size)
 clear b4 n3
 go_wp2_with fail
 refine (parse_n knownS w5 (by decide) known_ok).mono ?_
 rintro e w6 ⟨an, ln, cn, rfl, nn, b6, kn⟩
 rw [known_dr] at nn
 replace np := np.below b6
 replace nq := nq.below b6
 replace nr := nr.below b6
 replace b6 := b5.trans (b6.mono b5.size)
 clear b5
 go_wp2_with fail
 have x1 := cn_lit w6 [0, 10] 2 rfl known_c1 (by decide)
 have y1 := below_alloc w6 (.cells (U [0, 10]) 49)
 refine (same_t (np.below y1) x1 (by decide)).mono ?_
 rintro e w7 ⟨rfl, b7⟩
 replace b7 : Below w6.heap.size w6 w7 := y1.trans (b7.mono y1.size)
 replace np := np.below b7
 replace nq := nq.below b7
 replace nr := nr.below b7
 replace nn := nn.below b7
 replace b7 := b6.trans (b7.mono b6.size)
 clear x1 y1 b6
 go_wp2_with fail
 refine (text_n np.nm (by omega) (htab.below b7)).mono ?_
 rintro e w8 ⟨rfl, b8⟩
 rw [show ((4294967296 * 10 : Int)).toNat = 42949672960 from by decide, known_text]
 replace np := np.below b8
 replace nq := nq.below b8
 replace nr := nr.below b8
 replace nn := nn.below b8
 replace b8 := b7.trans (b8.mono b7.size)
 clear b7
 go_wp2_with fail
 have x1 := cn_lit w8 [1431655765, 3] 2 rfl known_c2 (by decide)
 have y1 := below_alloc w8 (.cells (U [1431655765, 3]) 49)
 refine (same_t (nq.below y1) x1 (by decide)).mono ?_
 rintro e w9 ⟨rfl, b9⟩
 replace b9 : Below w8.heap.size w8 w9 := y1.trans (b9.mono y1.size)
 replace np := np.below b9
 replace nr := nr.below b9
 replace nn := nn.below b9
 replace b9 := b8.trans (b9.mono b8.size)
 clear x1 y1 b8 nq
 go_wp2_with fail
 have x1 := cn_lit w9 [1] 1 rfl known_c3 (by decide)
 have y1 := below_alloc w9 (.cells (U [1]) 49)
 refine (same_t (nr.below y1) x1 (by decide)).mono ?_
 rintro e w10 ⟨rfl, b10⟩
 replace b10 : Below w9.heap.size w9 w10 := y1.trans (b10.mono y1.size)
 replace np := np.below b10
 replace nn := nn.below b10
 replace b10 := b9.trans (b10.mono b9.size)
 clear x1 y1 b9 nr
 go_wp2_with fail
 refine (same_t nn np (by decide)).mono ?_
 rintro e w11 ⟨rfl, b11⟩
 replace b11 := b10.trans (b11.mono b10.size)
 go_wp2_with fail
 go_ret
 exact ⟨rfl, b11⟩
end Go.Proofs.YtndhjoofbkgkiaaDoor

namespace Go.Proofs.YtndhjoofbkgkiaaDoor
open Go.RowKit

theorem below_alloc' {w0 w : World} (h : Below w0.heap.size w0 w) (o : Obj) : Below w0.heap.size w0 (w.alloc o) := h.alloc h.size o

/-- what was there at w0 is there still -/
def Kept (w0 w : World) : Prop := Below w0.heap.size w0 w
theorem Kept.refl (w : World) : Kept w w := Below.refl _ _
theorem kept_alloc {w0 w : World} (h : Kept w0 w) (o : Obj) : Kept w0 (w.alloc o) := below_alloc' h o
theorem kept_drew {w0 w : World} (h : Kept w0 w) : Kept w0 w.drew := Below.drew h
theorem kept_step {w0 w1 w2 : World} (k : Below w1.heap.size w1 w2) (h : Kept w0 w1) : Kept w0 w2 := Below.trans h (k.mono h.size)

/-- the same, of any base: what was there at w1 is there at w2 -/
theorem grow_alloc {w0 w : World} (h : Below w0.heap.size w0 w) (o : Obj) : Below w0.heap.size w0 (w.alloc o) := below_alloc' h o
theorem grow_drew {w0 w : World} (h : Below w0.heap.size w0 w) : Below w0.heap.size w0 w.drew := Below.drew h
theorem grow_step {w0 w1 w2 : World} (k : Below w1.heap.size w1 w2) (h : Below w0.heap.size w0 w1) : Below w0.heap.size w0 w2 := h.trans (k.mono h.size)
end Go.Proofs.YtndhjoofbkgkiaaDoor

namespace Go.Proofs.YtndhjoofbkgkiaaDoor
open Go.RowKit

theorem len32_lay (x : Int) (w : World) (h0 : 0 ≤ x) (h1 : x ≤ 4294967295) :
  Calls Tryd.prog 70 #[.int .u32 x] w fun e w' => e = .returned (.int .i64 (Lib.bitLen x.toNat)) ∧ w' = w := Any.bits_Len32 Tryd.lays128 x w h0 h1

theorem bitAux_spec (f : Nat) : ∀ x : Nat, x < 2 ^ f → x < 2 ^ Lib.bitLenAux f x ∧ (x ≠ 0 → 0 < Lib.bitLenAux f x ∧ 2 ^ (Lib.bitLenAux f x - 1) ≤ x) := by
 induction f with
 | zero => intro x hx; simp at hx; subst hx; simp [Lib.bitLenAux]
 | succ f ih =>
  intro x hx
  unfold Lib.bitLenAux
  by_cases h : x = 0
  ·subst h; simp
  ·rw [if_neg h]
   obtain ⟨h1, h2⟩ := ih (x / 2) (by rw [Nat.pow_succ] at hx; omega)
   refine ⟨?_, fun _ => ⟨by omega, ?_⟩⟩
   ·rw [Nat.add_comm, Nat.pow_succ]; omega
   ·rw [Nat.add_sub_cancel_left]
    by_cases h3 : x / 2 = 0
    ·have e : Lib.bitLenAux f (x / 2) = 0 := by rw [h3]; cases f <;> simp [Lib.bitLenAux]
     rw [e]; simp; omega
    ·obtain ⟨h4, h5⟩ := h2 h3
     obtain ⟨g, hg⟩ : ∃ g, Lib.bitLenAux f (x / 2) = g + 1 := ⟨_, (Nat.succ_pred_eq_of_pos h4).symm⟩
     rw [hg] at h5 ⊢
     rw [Nat.add_sub_cancel] at h5
     rw [Nat.pow_succ]
     omega

theorem bitLen_spec (x : Nat) (hx : x < 4294967296) : x < 2 ^ Lib.bitLen x ∧ (x ≠ 0 → 0 < Lib.bitLen x ∧ 2 ^ (Lib.bitLen x - 1) ≤ x) :=
 bitAux_spec 64 x (Nat.lt_of_lt_of_le hx (by decide))

theorem bitLen_le32 (x : Nat) (hx : x < 4294967296) : Lib.bitLen x ≤ 32 := by
 by_cases h : x = 0
 ·subst h; decide
 ·obtain ⟨_, h2⟩ := bitLen_spec x hx
  obtain ⟨h3, h4⟩ := h2 h
  rcases Nat.lt_or_ge 32 (Lib.bitLen x) with h5 | h5
  ·have : 2 ^ 32 ≤ 2 ^ (Lib.bitLen x - 1) := Nat.pow_le_pow_right (by decide) (by omega)
   have e : (2 : Nat) ^ 32 = 4294967296 := by decide
   omega
  ·exact h5

/-- how many bits a canonical list has -/
def bitsL (X : List Int) : Nat := if X.length = 0 then 0 else 32 * (X.length - 1) + Lib.bitLen (lz X (X.length - 1)).toNat

set_option maxRecDepth 100000 in
set_option maxHeartbeats 800000 in
theorem bits_any {a1 : Option Addr} {l1 c1 : Nat} {xs : List Int} {w : World} (h1 : Rd w a1 l1 c1 xs) (hl : l1 ≤ 1099511627776) :
  Calls Tryd.prog 58 #[.slice a1 l1 c1] w fun e w' => e = .returned (.int .i64 (bitsL (trim xs))) ∧ w = w' := by
 have t1 := h1.trim
 have hb1 := tl_le xs l1
 have hL := t1.2.2.2.1
 generalize hX : trim xs = X at *
 clear hX
 generalize hn : tl xs l1 = n1 at *
 have HN := hide hn
 clear hn
 have hXl : X.length = n1 := t1.1
 by_cases h0 : n1 = 0
 ·subst h0
  have hbl := hide (show bitsL X = 0 from by unfold bitsL; rw [if_pos hXl])
  clear hXl
  go_enter Tryd.func58, Tryd.ntmps58
  go_wp2_with fail
  refine (bare_any h1).mono ?_
  rintro e w' ⟨rfl, rfl⟩
  rw [unhide HN]
  go_wp2_with fail
  go_ret
  rw [unhide hbl]
  exact ⟨rfl, rfl⟩
 ·obtain ⟨b, off, rfl, g⟩ := t1.some (by omega)
  obtain ⟨m, rfl⟩ : ∃ m, n1 = m + 1 := ⟨n1 - 1, by omega⟩
  have hbl := hide (show bitsL X = 32 * m + Lib.bitLen (lz X m).toNat from by unfold bitsL; rw [hXl, if_neg (by omega)]; rfl)
  have gm := g m (by omega)
  have hbd := lz_bd hL m
  have h32 : Lib.bitLen (lz X m).toNat ≤ 32 := bitLen_le32 _ (by omega)
  have hne : (((m : Int) + 1) == 0) = false := by rw [beq_eq_false_iff_ne]; omega
  clear hXl h0 g
  go_enter Tryd.func58, Tryd.ntmps58
  go_wp2_with fail
  refine (bare_any h1).mono ?_
  rintro e w' ⟨rfl, rfl⟩
  rw [unhide HN]
  go_wp2_with fail
  refine (len32_lay (lz X m) w hbd.1 (by omega)).mono ?_
  rintro e w' ⟨rfl, hw⟩
  have HW := hide hw.symm
  clear hw
  go_wp2_with fail
  go_ret
  rw [unhide hbl]
  exact ⟨ret_int (by omega), unhide HW⟩

/-- 0 bits: the number 0 -/
theorem bitsL_zero {X : List Int} (h : Canon X) : bitsL X = 0 ↔ val X = 0 := by
 rw [canon_zero h]
 constructor
 ·intro hb
  unfold bitsL at hb
  split at hb
  ·exact List.eq_nil_of_length_eq_zero (by assumption)
  ·rename_i h0
   have h1 := h.2 (by omega)
   have h2 := lz_bd h.1 (X.length - 1)
   obtain ⟨_, h3⟩ := bitLen_spec (lz X (X.length - 1)).toNat (by omega)
   have := (h3 (by omega)).1
   omega
 ·rintro rfl; rfl

theorem bits_n {a1 : Option Addr} {l1 c1 : Nat} {n : Int} {w : World} (h1 : Nm w a1 l1 c1 n) (hl : l1 ≤ 1099511627776) :
  Calls Tryd.prog 58 #[.slice a1 l1 c1] w fun e w' => ∃ k : Nat, e = .returned (.int .i64 k) ∧ (k = 0 ↔ n = 0) ∧ Below w.heap.size w w' := by
 obtain ⟨xs, h1, rfl⟩ := h1
 refine (bits_any h1 hl).mono ?_
 rintro e w' ⟨rfl, rfl⟩
 refine ⟨_, rfl, ?_, Below.refl _ _⟩
 rw [bitsL_zero (canon_trim h1.2.2.2.1), val_trim]
end Go.Proofs.YtndhjoofbkgkiaaDoor
