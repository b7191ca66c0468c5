/-
 Several texts in one: O9, OA, OM, OB, OC, OD, OE, OF, OG, OH, OI.
-/
import Derived.Test.YtgpaajolcpgeaaaGreatDoorSrd24
import Derived.Lib.Builder
import Derived.Lib.AppendStr
import Derived.Lib.UnsafeStr
import Derived.Lib.OthersKept
import Derived.Lib.BufferKept
import Derived.Laws.Externs
import Derived.Test.YtgpaajolcpgeaaaGreatDoorSrd01
import Derived.Test.YtgpaajolcpgeaaaGreatDoorSrd05
import Derived.Test.YtgpaajolcpgeaaaGreatDoorSrd10
namespace Go.Proofs.YtgpaajolcpgeaaaGreatDoor
open Go.RowKit
namespace Sx

/-- a printer's block; what it has written -/
def PrV (b : Nat) (p v : Value) (l : List UInt8) (g o : Bool) (w : World) : Prop :=
 w.heap[b]? = some (.cells #[p, v, .bool g, .bool o] 73 (0, 0)) ∧ w.ownsRow (b + 1) 5 1 v l.length (Lib.byteCells l)
def PrB (b : Nat) (l : List UInt8) (g o : Bool) (w : World) : Prop := ∃ p v, (p = .pointer none ∨ p = .pointer (some ⟨b, 0, none⟩)) ∧ PrV b p v l g o w
/-- all else stays -/
structure KO (b : Nat) (w w' : World) : Prop where
 bel : Below b w w'
 oth : Lib.OthersKept 5 (some b) w w'
theorem KO.refl (b : Nat) (w : World) : KO b w w := ⟨Below.refl _ _, Lib.OthersKept.refl _ _ _⟩
theorem KO.trans {b : Nat} {w w1 w2 : World} (h : KO b w w1) (k : KO b w1 w2) : KO b w w2 := ⟨h.bel.trans k.bel, h.oth.trans k.oth⟩
theorem KO.below {b : Nat} {w w1 w2 : World} (h : KO b w w1) (hb : b ≤ w1.heap.size) (k : Below w1.heap.size w1 w2) : KO b w w2 := ⟨h.bel.trans (k.mono hb), h.oth.below k⟩
theorem KO.vb {b bt : Nat} {w w' : World} {x : TC} (h : KO b w w') (hb : bt ≠ b) (y : VB w bt x) : VB w' bt x := h.oth bt _ y (fun e => hb (Option.some.inj e)) (by intro c fz e; cases e)
theorem PrV.lt {b : Nat} {p v : Value} {l : List UInt8} {g o : Bool} {w : World} (h : PrV b p v l g o w) : b < w.heap.size := lt_of_block h.1
theorem PrV.ne {b : Nat} {p v : Value} {l : List UInt8} {g o : Bool} {w : World} (h : PrV b p v l g o w) : v.ownBlock ≠ some b := fun e => by
 have := (h.2.lt b e).1
 omega
theorem PrV.c0 {b : Nat} {p v : Value} {l : List UInt8} {g o : Bool} {w : World} (h : PrV b p v l g o w) : w.cell? ⟨b, 0, none⟩ = some p := cell_of_row w b 0 _ _ (0, 0) h.1
theorem PrV.c1 {b : Nat} {p v : Value} {l : List UInt8} {g o : Bool} {w : World} (h : PrV b p v l g o w) : w.cell? ⟨b, 1, none⟩ = some v := cell_of_row w b 1 _ _ (0, 0) h.1
theorem PrV.c2 {b : Nat} {p v : Value} {l : List UInt8} {g o : Bool} {w : World} (h : PrV b p v l g o w) : w.cell? ⟨b, 2, none⟩ = some (.bool g) := cell_of_row w b 2 _ _ (0, 0) h.1
theorem PrV.c3 {b : Nat} {p v : Value} {l : List UInt8} {g o : Bool} {w : World} (h : PrV b p v l g o w) : w.cell? ⟨b, 3, none⟩ = some (.bool o) := cell_of_row w b 3 _ _ (0, 0) h.1
theorem PrV.f {b : Nat} {p v : Value} {l : List UInt8} {g o : Bool} {w : World} (h : PrV b p v l g o w) (i : Nat) : w.frozen? ⟨b, i, none⟩ = false := frozen_of_row w b i _ _ h.1
theorem PrV.sl {b : Nat} {p v : Value} {l : List UInt8} {g o : Bool} {w : World} (h : PrV b p v l g o w) : ∃ a c, v = .slice a l.length c := by
 rcases h.2.2 with ⟨hv, h0⟩ | ⟨g, cap, cur, hv, _⟩
 ·exact ⟨none, 0, by rw [hv, h0]⟩
 ·exact ⟨_, _, hv⟩
/-- a store into the block itself -/
theorem PrV.own {b : Nat} {p v : Value} {l : List UInt8} {g o : Bool} {w : World} (h : PrV b p v l g o w) (i : Nat) (u : Value) : (w.setCell ⟨b, i, none⟩ u).ownsRow (b + 1) 5 1 v l.length (Lib.byteCells l) :=
 h.2.kept (row := some b) ⟨rfl, rfl, rfl, by simp [World.setCell], fun k _ hk => Below.heap_setCell _ _ _ _ (fun e => hk (by simp [e]))⟩ (.inr h.ne)
theorem KO.set {b : Nat} {w : World} (i : Nat) (u : Value) : KO b w (w.setCell ⟨b, i, none⟩ u) := ⟨(Only.set b i w u).below (Nat.le_refl _), (Lib.OthersKept.refl _ _ w).setCell ⟨b, i, none⟩ rfl u⟩
theorem PrV.addr {b : Nat} {p v : Value} {l : List UInt8} {g o : Bool} {w : World} (h : PrV b p v l g o w) (q : Value) : PrV b q v l g o (w.setCell ⟨b, 0, none⟩ q) := ⟨heap_setCell_same w b 0 _ _ q h.1, h.own 0 q⟩
theorem PrV.glue {b : Nat} {p v : Value} {l : List UInt8} {g o : Bool} {w : World} (h : PrV b p v l g o w) (g' : Bool) : PrV b p v l g' o (w.setCell ⟨b, 2, none⟩ (.bool g')) := ⟨heap_setCell_same w b 2 _ _ _ h.1, h.own 2 _⟩
theorem PrV.past {b : Nat} {p v : Value} {l : List UInt8} {g o : Bool} {w : World} (h : PrV b p v l g o w) (o' : Bool) : PrV b p v l g o' (w.setCell ⟨b, 3, none⟩ (.bool o')) := ⟨heap_setCell_same w b 3 _ _ _ h.1, h.own 3 _⟩
/-- a new buffer -/
theorem PrV.put {b : Nat} {p v v' : Value} {l l' : List UInt8} {g o : Bool} {w w2 : World} (h : PrV b p v l g o w) (ho : w2.ownsRow (b + 1) 5 1 v' l'.length (Lib.byteCells l')) (hg : w.grownBy w2 v.ownBlock) : PrV b p v' l' g o (w2.setCell ⟨b, 1, none⟩ v') := by
 have h2 : w2.heap[b]? = some (.cells #[p, v, .bool g, .bool o] 73 (0, 0)) := (hg.block b h.lt fun e => h.ne e.symm).trans h.1
 refine ⟨heap_setCell_same w2 b 1 _ _ v' h2, ho.kept (row := some b) ⟨rfl, rfl, rfl, by simp [World.setCell], fun k _ hk => Below.heap_setCell _ _ _ _ (fun e => hk (by simp [e]))⟩ (.inr fun e => ?_)⟩
 have := (ho.lt b e).1
 omega
theorem KO.grown {b : Nat} {p v : Value} {l : List UInt8} {g o : Bool} {w w2 : World} (h : PrV b p v l g o w) (hg : w.grownBy w2 v.ownBlock) : KO b w w2 := by
 refine ⟨⟨hg.os, hg.tape, hg.output, hg.size, fun i hi => hg.block i (by have := h.lt; omega) fun e => ?_⟩, fun k ob hk hkb ho => ?_⟩
 ·have := (h.2.lt i e.symm).1
  omega
 ·refine (hg.block k (Array.getElem?_eq_some_iff.1 hk).1 fun e => ?_).trans hk
  rcases h.2.2 with ⟨hv, _⟩ | ⟨g', cap, cur, hv, _, hg', _⟩
  ·rw [hv] at e
   cases e
  ·rw [hv] at e
   cases e
   rw [hk] at hg'
   cases hg'
   exact ho _ _ rfl
theorem infoBld : ∃ j, Tryz.prog.info? 71 = some j ∧ j.size = 2 := by
 have h : (Tryz.prog.info? 71).map (·.size) = some 2 := by kernel_rfl
 cases hj : Tryz.prog.info? 71 with
 | none => rw [hj] at h; cases h
 | some j =>
  rw [hj] at h
  exact ⟨j, rfl, Option.some.inj h⟩
theorem liesBld : liesAt Tryz.prog Tryz.prog.depth 73 (4 / Tryz.prog.cellsOf 73) 0 71 1 = true := by kernel_rfl
set_option maxHeartbeats 1000000 in
set_option maxRecDepth 100000 in
theorem copyCheck_n {b : Nat} {l : List UInt8} {g o : Bool} {w : World} (h : PrB b l g o w) : Calls Tryz.prog 145 #[.pointer (some ⟨b, 0, none⟩)] w fun e w' => e = .returned (.tuple #[]) ∧ (∃ v, PrV b (.pointer (some ⟨b, 0, none⟩)) v l g o w') ∧ KO b w w' ∧ w.heap.size = w'.heap.size := by
 obtain ⟨j, hj, hjs⟩ := infoBld
 obtain ⟨p, v, rfl | rfl, h⟩ := h
 ·have h0 := h.c0
  have hfz := h.f 0
  have hsh : w.shape? b = some (73, 4) := by simp [World.shape?, h.1]
  go_enter Tryz.func145, Tryz.ntmps145
  go_wp2
  rw [Lib.run_to_unsafe w ⟨b, 0, none⟩ Tryz.underlying69 Tryz.underlying201 hj (by rw [hjs]; decide) hsh (Nat.zero_lt_succ 3)]
  simp only [Result.andThen]
  rw [Oper.upon_value]
  go_wp2
  rw [run_callFunc_extern Tryz.func168 (by kernel_rfl) (by kernel_rfl) (by kernel_rfl) (e := Extern.AbiNoEscape.same) (by kernel_rfl)]
  rw [Lib.run_noEscape]
  simp only [Result.andThen]
  rw [Oper.upon_value]
  go_wp2
  rw [Lib.run_from_unsafe w ⟨b, 0, none⟩ Tryz.underlying201 Tryz.underlying69 hj hsh liesBld]
  simp only [Result.andThen]
  rw [Oper.upon_value]
  go_wp2
  go_end0
  exact ⟨rfl, ⟨v, h.addr _⟩, KO.set 0 _, by simp [World.setCell]⟩
 ·have h0 := h.c0
  go_enter Tryz.func145, Tryz.ntmps145
  go_wp2
  rw [Lib.run_neq_ptr_same w _ Tryz.underlying69 hj]
  go_wp2
  go_end0
  exact ⟨rfl, ⟨v, h⟩, KO.refl _ _, rfl⟩
set_option maxHeartbeats 1000000 in
set_option maxRecDepth 100000 in
theorem blen_n {b : Nat} {l : List UInt8} {g o : Bool} {w : World} (h : PrB b l g o w) : Calls Tryz.prog 113 #[.pointer (some ⟨b, 0, none⟩)] w fun e w' => e = .returned (.int .i64 l.length) ∧ w' = w := by
 obtain ⟨p, v, -, h⟩ := h
 obtain ⟨a, c, rfl⟩ := h.sl
 have c1 := h.c1
 generalize l.length = n at *
 go_enter Tryz.func113, Tryz.ntmps113
 go_wp2
 refine bodyPost_ret (results_tmp rfl _ _ _) rfl ?_
 exact ⟨rfl, rfl⟩
theorem infoByte : (Tryz.prog.info? 5).map (fun i => (i.zero, i.size, i.bytes)) = some (some (.int .u8 0), 1, 1) := by kernel_rfl
set_option maxHeartbeats 2000000 in
set_option maxRecDepth 100000 in
theorem bstr_n {b : Nat} {l : List UInt8} {g o : Bool} {w : World} (h : PrB b l g o w) (s : ByteArray) (hl : l.length + s.size ≤ 1099511627776) : Calls Tryz.prog 115 #[.pointer (some ⟨b, 0, none⟩), .string s] w fun e w' => (∃ u, e = .returned u) ∧ PrB b (l ++ s.data.toList) g o w' ∧ KO b w w' := by
 obtain ⟨i0, hi, hz0, hz1, hz2⟩ := info_parts infoByte
 have hck := hide (copyCheck_n h)
 have hbl : b + 1 ≤ w.heap.size := by
  obtain ⟨p, v, -, h⟩ := h
  exact h.lt
 clear h
 go_enter Tryz.func115, Tryz.ntmps115
 go_wp2_with fail
 refine hck.out.mono ?_
 rintro e w1 ⟨rfl, ⟨v, h1⟩, k1, hsz⟩
 clear hck
 have c1 := h1.c1
 have hown := h1.2
 obtain ⟨a, c, rfl⟩ := h1.sl
 go_wp2_with (at_builtin; refine Lib.wpList_append_own_string _ rfl _ _ 65 9 rfl (b + 1) 5 i0 Tryz.underlying65 Tryz.underlying9 hi hz0 hz1 hz2 _ _ _ rfl hown s rfl ?c3 ?c4 ?c5 ?_)
 case c3 => unfold maxLen; omega
 case c4 => omega
 case c5 => omega
 intro v' w2 hown' hgrow _
 have hg := h1.1
 have h2 : PrV b (.pointer (some ⟨b, 0, none⟩)) v' (l ++ s.data.toList) g o (w2.setCell ⟨b, 1, none⟩ v') := h1.put (by rw [Lib.byteCells_append, List.length_append]; exact hown') hgrow
 have k2 := (k1.trans (KO.grown h1 hgrow)).trans (KO.set 1 v')
 have hb2 : w2.heap[b]? = some (.cells #[.pointer (some ⟨b, 0, none⟩), .slice a l.length c, .bool g, .bool o] 73 (0, 0)) := (hgrow.block b h1.lt fun e => h1.ne e.symm).trans h1.1
 have d1 := cell_of_row w2 b 1 _ _ (0, 0) hb2
 have f1 := frozen_of_row w2 b 1 _ _ hb2
 obtain ⟨a', c', rfl⟩ : ∃ a' c', v' = .slice a' (l.length + s.size) c' := by
  rcases hown'.2 with ⟨hv, h0⟩ | ⟨g, cap, cur, hv, _⟩
  ·exact ⟨none, 0, by rw [hv, h0]⟩
  ·exact ⟨_, _, hv⟩
 replace h2 := hide h2
 replace k2 := hide k2
 clear hown' hown hg hb2 hgrow h1 c1
 go_wp2
 go_ret2
 exact ⟨⟨_, rfl⟩, ⟨_, _, .inr rfl, h2.out⟩, k2.out⟩
set_option maxHeartbeats 2000000 in
set_option maxRecDepth 100000 in
theorem bbyte_n {b : Nat} {l : List UInt8} {g o : Bool} {w : World} (h : PrB b l g o w) (c : UInt8) (hl : l.length ≤ 1099511627776) : Calls Tryz.prog 114 #[.pointer (some ⟨b, 0, none⟩), .int .u8 c.toNat] w fun e w' => (∃ u, e = .returned u) ∧ PrB b (l ++ [c]) g o w' ∧ KO b w w' := by
 obtain ⟨i0, hi, hz0, hz1, hz2⟩ := info_parts infoByte
 have hck := hide (copyCheck_n h)
 have hbl : b + 1 ≤ w.heap.size := by
  obtain ⟨p, v, -, h⟩ := h
  exact h.lt
 clear h
 go_enter Tryz.func114, Tryz.ntmps114
 go_wp2_with fail
 refine hck.out.mono ?_
 rintro e w1 ⟨rfl, ⟨v, h1⟩, k1, hsz⟩
 clear hck
 have c1 := h1.c1
 have hown := h1.2.alloc (.cells #[.int .u8 c.toNat] 5)
 have b3 := below_alloc w1 (.cells #[.int .u8 c.toNat] 5)
 have hc3 : (w1.alloc (.cells #[.int .u8 c.toNat] 5)).cell? ⟨w1.heap.size, 0, none⟩ = some (.int .u8 c.toNat) := cell_of_row _ w1.heap.size 0 _ _ (0, 0) (heap_alloc_new w1 _)
 have h3 : PrV b (.pointer (some ⟨b, 0, none⟩)) v l g o (w1.alloc (.cells #[.int .u8 c.toNat] 5)) := ⟨(b3.block b h1.lt).trans h1.1, hown⟩
 have k3 := k1.below (by omega) b3
 obtain ⟨a, c', rfl⟩ := h1.sl
 replace hc3 := hide hc3
 go_wp2_with (at_builtin; refine wpList_append_own_at _ rfl _ _ 65 rfl (b + 1) 5 i0 _ 1 1 Tryz.underlying65 hi hz0 hz1 hz2 rfl (by decide) _ _ _ rfl hown ⟨w1.heap.size, 0, none⟩ 1 1 [.int .u8 c.toNat] rfl rfl ?c1 (fun u hu => by obtain rfl := List.mem_singleton.1 hu; rfl) ?c3 ?c4 ?c5 ?_)
 case c1 =>
  intro j u hu
  match j, hu with
  | 0, hu =>
   cases hu
   exact hc3.out
 case c3 => unfold maxLen; omega
 case c4 => omega
 case c5 => simp; omega
 intro v' w2 hown' hgrow _ _
 have h2 : PrV b (.pointer (some ⟨b, 0, none⟩)) v' (l ++ [c]) g o (w2.setCell ⟨b, 1, none⟩ v') := h3.put (by rw [Lib.byteCells_append, List.length_append]; exact hown') hgrow
 have k2 := (k3.trans (KO.grown h3 hgrow)).trans (KO.set 1 v')
 have hb2 : w2.heap[b]? = some (.cells #[.pointer (some ⟨b, 0, none⟩), .slice a l.length c', .bool g, .bool o] 73 (0, 0)) := (hgrow.block b h3.lt fun e => h3.ne e.symm).trans h3.1
 have d1 := cell_of_row w2 b 1 _ _ (0, 0) hb2
 have f1 := frozen_of_row w2 b 1 _ _ hb2
 obtain ⟨a2, c2, rfl⟩ : ∃ a' c', v' = .slice a' (l.length + 1) c' := by
  rcases hown'.2 with ⟨hv, h0⟩ | ⟨g, cap, cur, hv, _⟩
  ·exact ⟨none, 0, by rw [hv, h0]⟩
  ·exact ⟨_, _, hv⟩
 replace h2 := hide h2
 replace k2 := hide k2
 clear hown' hown hb2 hgrow h1 c1 h3 hc3
 go_wp2
 refine bodyPost_ret (results_tmp rfl _ _ _) rfl ?_
 exact ⟨⟨_, rfl⟩, ⟨_, _, .inr rfl, h2.out⟩, k2.out⟩
end Sx
end Go.Proofs.YtgpaajolcpgeaaaGreatDoor

namespace Go.Proofs.YtgpaajolcpgeaaaGreatDoor
open Go.RowKit
namespace Sx

/-- what a printer has: its text, whether the next word is glued to it, whether it is too long -/
structure Ps where
 l : List UInt8
 g : Bool
 o : Bool
/-- a word more -/
def wrd (s : List UInt8) (p : Ps) : Ps :=
 if p.o then p else ⟨(if 0 < p.l.length ∧ p.g = false then p.l ++ [32] else p.l) ++ s, false, decide (4096 < ((if 0 < p.l.length ∧ p.g = false then p.l ++ [32] else p.l) ++ s).length)⟩
abbrev PrS (b : Nat) (p : Ps) (w : World) : Prop := PrB b p.l p.g p.o w
/-- no longer than it may be, or too long -/
def Ok4 (p : Ps) : Prop := p.o = false → p.l.length ≤ 4096
theorem wrd_ok (s : List UInt8) {p : Ps} (h : Ok4 p) : Ok4 (wrd s p) := by
 unfold wrd
 split
 ·exact h
 ·intro h2
  have h3 := of_decide_eq_false h2
  dsimp only at *
  omega
set_option maxHeartbeats 3200000 in
set_option maxRecDepth 100000 in
theorem word_n {b : Nat} {p : Ps} {w : World} (h : PrS b p w) (hk : Ok4 p) (s : ByteArray) (hs : s.size ≤ 68719476736) : Calls Tryz.prog 77 #[.pointer (some ⟨b, 0, none⟩), .string s] w fun e w' => e = .returned (.tuple #[]) ∧ PrS b (wrd s.data.toList p) w' ∧ KO b w w' := by
 obtain ⟨l, g, o⟩ := p
 obtain ⟨p0, v0, hp0, h0⟩ := h
 have c3 := h0.c3
 dsimp only at *
 have h : PrB b l g o w := ⟨p0, v0, hp0, h0⟩
 go_enter Tryz.func77, Tryz.ntmps77
 cases o with
 | true =>
  go_wp2
  refine bodyPost_ret (results_none rfl _ _ _) rfl ?_
  exact ⟨rfl, h, KO.refl _ _⟩
 | false =>
  have hl : l.length ≤ 4096 := hk rfl
  have c2 := h0.c2
  have hln := hide (blen_n h)
  clear h0 c3
  have c3 : w.cell? ⟨b, 3, none⟩ = some (.bool false) := by
   obtain ⟨p, v, -, h⟩ := h
   exact h.c3
  go_wp2_with fail
  refine hln.out.mono ?_
  rintro e w1 ⟨rfl, rfl⟩
  clear hln
  by_cases hn0 : 0 < l.length
  ·have hgt : decide ((0 : Int) < (l.length : Int)) = true := by
    rw [decide_eq_true_eq]
    omega
   have hnl : ¬ l.length = 0 := by omega
   cases g with
   | false =>
    have hwb := hide (bbyte_n h 32 (by omega))
    go_wp2_with fail
    refine hwb.out.mono ?_
    rintro e w1 ⟨⟨u, rfl⟩, h1, k1⟩
    clear hwb
    have hws := hide (bstr_n h1 s (by rw [List.length_append, List.length_singleton]; omega))
    go_wp2_with fail
    refine hws.out.mono ?_
    rintro e w2 ⟨⟨u, rfl⟩, h2, k2⟩
    clear hws
    obtain ⟨p2, v2, hp2, h2⟩ := h2
    have d2 := h2.c2
    have e2 := h2.f 2
    have h3 := h2.glue false
    have k3 := hide ((k1.trans k2).trans (KO.set 2 (.bool false)))
    have h3b : PrB b ((l ++ [32]) ++ s.data.toList) false false (w2.setCell ⟨b, 2, none⟩ (.bool false)) := ⟨p2, v2, hp2, h3⟩
    have hl3 := hide (blen_n h3b)
    have d3 := h3.c3
    have e3 := h3.f 3
    have h4 := hide (h3.past (decide (4096 < ((l ++ [32]) ++ s.data.toList).length)))
    have k4 := hide (k3.out.trans (KO.set 3 (.bool (decide (4096 < ((l ++ [32]) ++ s.data.toList).length)))))
    have hq : Hid (wrd s.data.toList ⟨l, false, false⟩ = ⟨(l ++ [32]) ++ s.data.toList, false, decide (4096 < ((l ++ [32]) ++ s.data.toList).length)⟩) := hide (by unfold wrd; rw [if_neg (by simp), if_pos ⟨hn0, rfl⟩])
    clear h2 k2 h3 h3b
    generalize ((l ++ [32]) ++ s.data.toList).length = m at *
    go_wp2_with fail
    refine hl3.out.mono ?_
    rintro e w4 ⟨rfl, rfl⟩
    clear hl3
    go_wp2
    go_end0
    rw [hq.out, show decide ((4096 : Int) < (m : Int)) = decide (4096 < m) by rw [decide_eq_decide]; omega]
    exact ⟨rfl, ⟨p2, v2, hp2, by first | exact h4.out | simpa using h4.out⟩, by first | exact k4.out | simpa using k4.out⟩
   | true =>
    have hneg : ¬ (0 < l.length ∧ true = false) := by simp
    have hws := hide (bstr_n h s (by omega))
    go_wp2_with fail
    refine hws.out.mono ?_
    rintro e w2 ⟨⟨u, rfl⟩, h2, k2⟩
    clear hws
    obtain ⟨p2, v2, hp2, h2⟩ := h2
    have d2 := h2.c2
    have e2 := h2.f 2
    have h3 := h2.glue false
    have k3 := hide ((k2).trans (KO.set 2 (.bool false)))
    have h3b : PrB b (l ++ s.data.toList) false false (w2.setCell ⟨b, 2, none⟩ (.bool false)) := ⟨p2, v2, hp2, h3⟩
    have hl3 := hide (blen_n h3b)
    have d3 := h3.c3
    have e3 := h3.f 3
    have h4 := hide (h3.past (decide (4096 < (l ++ s.data.toList).length)))
    have k4 := hide (k3.out.trans (KO.set 3 (.bool (decide (4096 < (l ++ s.data.toList).length)))))
    have hq : Hid (wrd s.data.toList ⟨l, true, false⟩ = ⟨l ++ s.data.toList, false, decide (4096 < (l ++ s.data.toList).length)⟩) := hide (by unfold wrd; rw [if_neg (by simp), if_neg hneg])
    clear h2 k2 h3 h3b
    generalize (l ++ s.data.toList).length = m at *
    go_wp2_with fail
    refine hl3.out.mono ?_
    rintro e w4 ⟨rfl, rfl⟩
    clear hl3
    go_wp2
    go_end0
    rw [hq.out, show decide ((4096 : Int) < (m : Int)) = decide (4096 < m) by rw [decide_eq_decide]; omega]
    exact ⟨rfl, ⟨p2, v2, hp2, by first | exact h4.out | simpa using h4.out⟩, by first | exact k4.out | simpa using k4.out⟩
  ·have hgt : decide ((0 : Int) < (l.length : Int)) = false := by
    rw [decide_eq_false_iff_not]
    omega
   have hneg : ¬ (0 < l.length ∧ g = false) := fun h => hn0 h.1
   have hws := hide (bstr_n h s (by omega))
   go_wp2_with fail
   refine hws.out.mono ?_
   rintro e w2 ⟨⟨u, rfl⟩, h2, k2⟩
   clear hws
   obtain ⟨p2, v2, hp2, h2⟩ := h2
   have d2 := h2.c2
   have e2 := h2.f 2
   have h3 := h2.glue false
   have k3 := hide ((k2).trans (KO.set 2 (.bool false)))
   have h3b : PrB b (l ++ s.data.toList) false false (w2.setCell ⟨b, 2, none⟩ (.bool false)) := ⟨p2, v2, hp2, h3⟩
   have hl3 := hide (blen_n h3b)
   have d3 := h3.c3
   have e3 := h3.f 3
   have h4 := hide (h3.past (decide (4096 < (l ++ s.data.toList).length)))
   have k4 := hide (k3.out.trans (KO.set 3 (.bool (decide (4096 < (l ++ s.data.toList).length)))))
   have hq : Hid (wrd s.data.toList ⟨l, g, false⟩ = ⟨l ++ s.data.toList, false, decide (4096 < (l ++ s.data.toList).length)⟩) := hide (by unfold wrd; rw [if_neg (by simp), if_neg hneg])
   clear h2 k2 h3 h3b
   generalize (l ++ s.data.toList).length = m at *
   go_wp2_with fail
   refine hl3.out.mono ?_
   rintro e w4 ⟨rfl, rfl⟩
   clear hl3
   go_wp2
   go_end0
   rw [hq.out, show decide ((4096 : Int) < (m : Int)) = decide (4096 < m) by rw [decide_eq_decide]; omega]
   exact ⟨rfl, ⟨p2, v2, hp2, by first | exact h4.out | simpa using h4.out⟩, by first | exact k4.out | simpa using k4.out⟩
end Sx
end Go.Proofs.YtgpaajolcpgeaaaGreatDoor

namespace Go.Proofs.YtgpaajolcpgeaaaGreatDoor.Ml
open Go.RowKit Go.Shelf

/-- the block of a variable that holds a number with a sign -/
def ZB (w : World) (b : Nat) (s : Bool) (a : Option Addr) (l c : Nat) : Prop := w.heap[b]? = some (.cells #[.bool s, .slice a l c] 25 (0, 0))
theorem ZB.c0 {w : World} {b : Nat} {s : Bool} {a : Option Addr} {l c : Nat} (h : ZB w b s a l c) : w.cell? ⟨b, 0, none⟩ = some (.bool s) := cell_of_row w b 0 _ _ (0, 0) h
theorem ZB.c1 {w : World} {b : Nat} {s : Bool} {a : Option Addr} {l c : Nat} (h : ZB w b s a l c) : w.cell? ⟨b, 1, none⟩ = some (.slice a l c) := cell_of_row w b 1 _ _ (0, 0) h
theorem zb_new (w : World) (s : Bool) (a : Option Addr) (l c : Nat) : ZB (w.alloc (.cells #[.bool s, .slice a l c] 25)) w.heap.size s a l c := heap_alloc_new w _
theorem len32_lay (x : Int) (w : World) (h0 : 0 ≤ x) (h1 : x ≤ 4294967295) :
  Calls Tryz.prog 122 #[.int .u32 x] w fun e w' => e = .returned (.int .i64 (Lib.bitLen x.toNat)) ∧ w' = w := Any.bits_Len32 Tryz.lays128 x w h0 h1

theorem bitAux_spec (f : Nat) : ∀ x : Nat, x < 2 ^ f → x < 2 ^ Lib.bitLenAux f x ∧ (x ≠ 0 → 0 < Lib.bitLenAux f x ∧ 2 ^ (Lib.bitLenAux f x - 1) ≤ x) := by
 induction f with
 | zero => intro x hx; simp at hx; subst hx; simp [Lib.bitLenAux]
 | succ f ih =>
  intro x hx
  unfold Lib.bitLenAux
  by_cases h : x = 0
  ·subst h; simp
  ·rw [if_neg h]
   obtain ⟨h1, h2⟩ := ih (x / 2) (by rw [Nat.pow_succ] at hx; omega)
   refine ⟨?_, fun _ => ⟨by omega, ?_⟩⟩
   ·rw [Nat.add_comm, Nat.pow_succ]; omega
   ·rw [Nat.add_sub_cancel_left]
    by_cases h3 : x / 2 = 0
    ·have e : Lib.bitLenAux f (x / 2) = 0 := by rw [h3]; cases f <;> simp [Lib.bitLenAux]
     rw [e]; simp; omega
    ·obtain ⟨h4, h5⟩ := h2 h3
     obtain ⟨g, hg⟩ : ∃ g, Lib.bitLenAux f (x / 2) = g + 1 := ⟨_, (Nat.succ_pred_eq_of_pos h4).symm⟩
     rw [hg] at h5 ⊢
     rw [Nat.add_sub_cancel] at h5
     rw [Nat.pow_succ]
     omega

theorem bitLen_spec (x : Nat) (hx : x < 4294967296) : x < 2 ^ Lib.bitLen x ∧ (x ≠ 0 → 0 < Lib.bitLen x ∧ 2 ^ (Lib.bitLen x - 1) ≤ x) :=
 bitAux_spec 64 x (Nat.lt_of_lt_of_le hx (by decide))

theorem bitLen_le32 (x : Nat) (hx : x < 4294967296) : Lib.bitLen x ≤ 32 := by
 by_cases h : x = 0
 ·subst h; decide
 ·obtain ⟨_, h2⟩ := bitLen_spec x hx
  obtain ⟨h3, h4⟩ := h2 h
  rcases Nat.lt_or_ge 32 (Lib.bitLen x) with h5 | h5
  ·have : 2 ^ 32 ≤ 2 ^ (Lib.bitLen x - 1) := Nat.pow_le_pow_right (by decide) (by omega)
   have e : (2 : Nat) ^ 32 = 4294967296 := by decide
   omega
  ·exact h5

/-- how many bits a canonical list has -/
def bitsL (X : List Int) : Nat := if X.length = 0 then 0 else 32 * (X.length - 1) + Lib.bitLen (lz X (X.length - 1)).toNat

set_option maxRecDepth 100000 in
set_option maxHeartbeats 800000 in
theorem bits_any {a1 : Option Addr} {l1 c1 : Nat} {xs : List Int} {w : World} (h1 : Rd w a1 l1 c1 xs) (hl : l1 ≤ 1099511627776) :
  Calls Tryz.prog 85 #[.slice a1 l1 c1] w fun e w' => e = .returned (.int .i64 (bitsL (trim xs))) ∧ w = w' := by
 have t1 := h1.trim
 have hb1 := tl_le xs l1
 have hL := t1.2.2.2.1
 generalize hX : trim xs = X at *
 clear hX
 generalize hn : tl xs l1 = n1 at *
 have HN := hide hn
 clear hn
 have hXl : X.length = n1 := t1.1
 by_cases h0 : n1 = 0
 ·subst h0
  have hbl := hide (show bitsL X = 0 from by unfold bitsL; rw [if_pos hXl])
  clear hXl
  go_enter Tryz.func85, Tryz.ntmps85
  go_wp2_with fail
  refine (bare_any h1).mono ?_
  rintro e w' ⟨rfl, rfl⟩
  rw [unhide HN]
  go_wp2_with fail
  go_ret
  rw [unhide hbl]
  exact ⟨rfl, rfl⟩
 ·obtain ⟨b, off, rfl, g⟩ := t1.some (by omega)
  obtain ⟨m, rfl⟩ : ∃ m, n1 = m + 1 := ⟨n1 - 1, by omega⟩
  have hbl := hide (show bitsL X = 32 * m + Lib.bitLen (lz X m).toNat from by unfold bitsL; rw [hXl, if_neg (by omega)]; rfl)
  have gm := g m (by omega)
  have hbd := lz_bd hL m
  have h32 : Lib.bitLen (lz X m).toNat ≤ 32 := bitLen_le32 _ (by omega)
  have hne : (((m : Int) + 1) == 0) = false := by rw [beq_eq_false_iff_ne]; omega
  clear hXl h0 g
  go_enter Tryz.func85, Tryz.ntmps85
  go_wp2_with fail
  refine (bare_any h1).mono ?_
  rintro e w' ⟨rfl, rfl⟩
  rw [unhide HN]
  go_wp2_with fail
  refine (len32_lay (lz X m) w hbd.1 (by omega)).mono ?_
  rintro e w' ⟨rfl, hw⟩
  have HW := hide hw.symm
  clear hw
  go_wp2_with fail
  go_ret
  rw [unhide hbl]
  exact ⟨ret_int (by omega), unhide HW⟩

theorem limbs_bits {xs : List Int} {l : Nat} (hL : Limbs xs) (hl : xs.length = l) : ((bitsL (trim xs) : Int) + 32 - 1) / 32 = (tl xs l : Int) := by
 have hc := canon_trim hL
 have ht := trim_length xs
 rw [hl] at ht
 rw [← ht]
 generalize trim xs = X at *
 unfold bitsL
 by_cases h0 : X.length = 0
 ·rw [if_pos h0, h0]; decide
 ·rw [if_neg h0]
  have hb := lz_bd hc.1 (X.length - 1)
  have hnz : lz X (X.length - 1) ≠ 0 := hc.2 (by omega)
  have h1 := bitLen_spec (lz X (X.length - 1)).toNat (by omega)
  have h2 := bitLen_le32 (lz X (X.length - 1)).toNat (by omega)
  have h3 := (h1.2 (by omega)).1
  generalize Lib.bitLen (lz X (X.length - 1)).toNat = bl at *
  omega

set_option maxRecDepth 100000 in
set_option maxHeartbeats 1600000 in
theorem zlimbs_n {s : Bool} {a : Option Addr} {l c : Nat} {xs : List Int} {w : World} (h : Rd w a l c xs) (hl : l ≤ 1099511627776) :
  Calls Tryz.prog 146 #[.agg #[.bool s, .slice a l c]] w fun e w' => e = .returned (.int .i64 (tl xs l)) ∧ Below w.heap.size w w' := by
 have HL := hide (limbs_bits h.2.2.2.1 h.1)
 have htl := tl_le xs l
 go_enter Tryz.func146, Tryz.ntmps146
 go_wp2_with fail
 have x := zb_new w s a l c
 have b0 := below_alloc w (.cells #[.bool s, .slice a l c] 25)
 replace h := h.below b0
 generalize w.alloc (.cells #[.bool s, .slice a l c] 25) = wb at *
 have u1 := x.c1
 have u0 := x.c0
 go_wp2_with fail
 refine (bits_any h hl).mono ?_
 rintro e w1 ⟨rfl, rfl⟩
 have hb : ((bitsL (trim xs) : Nat) : Int) + 32 - 1 ≤ 32 * tl xs l + 31 := by have := HL.out; omega
 generalize hq : bitsL (trim xs) = q at *
 have HQ : Hid (((q : Int) + 32 - 1) / 32 = (tl xs l : Int)) := HL.out
 clear hq HL
 go_wp2_with fail
 go_ret
 exact ⟨ret_int HQ.out, b0⟩

end Go.Proofs.YtgpaajolcpgeaaaGreatDoor.Ml

namespace Go.Proofs.YtgpaajolcpgeaaaGreatDoor
open Go.RowKit
namespace Sx

/-- the narrowest place at which a kind fits in -/
def pOf (k : Int) : Int :=
 if k = 1 then 7 else
 if k = 2 then 7 else
 if k = 3 then 7 else
 if k = 4 then 6 else
 if k = 5 then 6 else
 if k = 6 then 7 else
 if k = 7 then 5 else
 if k = 8 then 5 else
 if k = 9 then 5 else
 if k = 10 then 5 else
 if k = 11 then 5 else
 if k = 12 then 5 else
 if k = 13 then 5 else
 if k = 14 then 5 else
 if k = 15 then 5 else
 if k = 16 then 4 else
 if k = 17 then 3 else
 if k = 18 then 2 else
 if k = 19 then 1 else
 if k = 20 then 0 else
 if k = 21 then 4 else
 if k = 22 then 4 else
 5
/-- the widest place that a kind has for its first kid, for another one -/
def pIn (k : Int) (fst : Bool) : Int :=
 if k = 1 then (if fst then 6 else 6) else
 if k = 2 then (if fst then 6 else 6) else
 if k = 3 then (if fst then 7 else 7) else
 if k = 4 then (if fst then 6 else 7) else
 if k = 5 then (if fst then 6 else 7) else
 if k = 6 then (if fst then 7 else 7) else
 if k = 7 then (if fst then 6 else 6) else
 if k = 8 then (if fst then 6 else 6) else
 if k = 9 then (if fst then 6 else 6) else
 if k = 10 then (if fst then 6 else 6) else
 if k = 11 then (if fst then 6 else 6) else
 if k = 12 then (if fst then 6 else 6) else
 if k = 13 then (if fst then 6 else 6) else
 if k = 14 then (if fst then 6 else 6) else
 if k = 15 then (if fst then 6 else 6) else
 if k = 16 then (if fst then 4 else 4) else
 if k = 17 then (if fst then 4 else 4) else
 if k = 18 then (if fst then 3 else 3) else
 if k = 19 then (if fst then 2 else 1) else
 if k = 20 then (if fst then 0 else 1) else
 if k = 21 then (if fst then 0 else 0) else
 if k = 22 then (if fst then 0 else 0) else
 6
theorem kind_of {k : Int} (h : (shp k).is ≠ 0) : 1 ≤ k ∧ k ≤ 22 := by
 by_cases hk : 1 ≤ k ∧ k ≤ 22
 ·exact hk
 ·refine absurd ?_ h
  unfold shp
  iterate 22 (rw [if_neg (by omega)])
theorem kinds {P : Int → Prop} {k : Int} (h : 1 ≤ k ∧ k ≤ 22) (hP : P 1 ∧ P 2 ∧ P 3 ∧ P 4 ∧ P 5 ∧ P 6 ∧ P 7 ∧ P 8 ∧ P 9 ∧ P 10 ∧ P 11 ∧ P 12 ∧ P 13 ∧ P 14 ∧ P 15 ∧ P 16 ∧ P 17 ∧ P 18 ∧ P 19 ∧ P 20 ∧ P 21 ∧ P 22) : P k := by
 obtain ⟨h1, h2, h3, h4, h5, h6, h7, h8, h9, h10, h11, h12, h13, h14, h15, h16, h17, h18, h19, h20, h21, h22⟩ := hP
 by_cases e1 : k = 1
 ·subst e1; exact h1
 by_cases e2 : k = 2
 ·subst e2; exact h2
 by_cases e3 : k = 3
 ·subst e3; exact h3
 by_cases e4 : k = 4
 ·subst e4; exact h4
 by_cases e5 : k = 5
 ·subst e5; exact h5
 by_cases e6 : k = 6
 ·subst e6; exact h6
 by_cases e7 : k = 7
 ·subst e7; exact h7
 by_cases e8 : k = 8
 ·subst e8; exact h8
 by_cases e9 : k = 9
 ·subst e9; exact h9
 by_cases e10 : k = 10
 ·subst e10; exact h10
 by_cases e11 : k = 11
 ·subst e11; exact h11
 by_cases e12 : k = 12
 ·subst e12; exact h12
 by_cases e13 : k = 13
 ·subst e13; exact h13
 by_cases e14 : k = 14
 ·subst e14; exact h14
 by_cases e15 : k = 15
 ·subst e15; exact h15
 by_cases e16 : k = 16
 ·subst e16; exact h16
 by_cases e17 : k = 17
 ·subst e17; exact h17
 by_cases e18 : k = 18
 ·subst e18; exact h18
 by_cases e19 : k = 19
 ·subst e19; exact h19
 by_cases e20 : k = 20
 ·subst e20; exact h20
 by_cases e21 : k = 21
 ·subst e21; exact h21
 by_cases e22 : k = 22
 ·subst e22; exact h22
 omega
set_option maxRecDepth 100000 in
theorem placeOf_1 (w : World) : Calls Tryz.prog 75 #[.int .i64 1] w fun en w' => en = .returned (.int .i64 (pOf 1)) ∧ w = w' := by
 go_enter Tryz.func75, Tryz.ntmps75
 go_wp2
 exact bodyPost_ret (results_tmp rfl _ _ _) rfl ⟨by simp [pOf], rfl⟩
set_option maxRecDepth 100000 in
theorem placeOf_2 (w : World) : Calls Tryz.prog 75 #[.int .i64 2] w fun en w' => en = .returned (.int .i64 (pOf 2)) ∧ w = w' := by
 go_enter Tryz.func75, Tryz.ntmps75
 go_wp2
 exact bodyPost_ret (results_tmp rfl _ _ _) rfl ⟨by simp [pOf], rfl⟩
set_option maxRecDepth 100000 in
theorem placeOf_3 (w : World) : Calls Tryz.prog 75 #[.int .i64 3] w fun en w' => en = .returned (.int .i64 (pOf 3)) ∧ w = w' := by
 go_enter Tryz.func75, Tryz.ntmps75
 go_wp2
 exact bodyPost_ret (results_tmp rfl _ _ _) rfl ⟨by simp [pOf], rfl⟩
set_option maxRecDepth 100000 in
theorem placeOf_4 (w : World) : Calls Tryz.prog 75 #[.int .i64 4] w fun en w' => en = .returned (.int .i64 (pOf 4)) ∧ w = w' := by
 go_enter Tryz.func75, Tryz.ntmps75
 go_wp2
 exact bodyPost_ret (results_tmp rfl _ _ _) rfl ⟨by simp [pOf], rfl⟩
set_option maxRecDepth 100000 in
theorem placeOf_5 (w : World) : Calls Tryz.prog 75 #[.int .i64 5] w fun en w' => en = .returned (.int .i64 (pOf 5)) ∧ w = w' := by
 go_enter Tryz.func75, Tryz.ntmps75
 go_wp2
 exact bodyPost_ret (results_tmp rfl _ _ _) rfl ⟨by simp [pOf], rfl⟩
set_option maxRecDepth 100000 in
theorem placeOf_6 (w : World) : Calls Tryz.prog 75 #[.int .i64 6] w fun en w' => en = .returned (.int .i64 (pOf 6)) ∧ w = w' := by
 go_enter Tryz.func75, Tryz.ntmps75
 go_wp2
 exact bodyPost_ret (results_tmp rfl _ _ _) rfl ⟨by simp [pOf], rfl⟩
set_option maxRecDepth 100000 in
theorem placeOf_7 (w : World) : Calls Tryz.prog 75 #[.int .i64 7] w fun en w' => en = .returned (.int .i64 (pOf 7)) ∧ w = w' := by
 go_enter Tryz.func75, Tryz.ntmps75
 go_wp2
 exact bodyPost_ret (results_tmp rfl _ _ _) rfl ⟨by simp [pOf], rfl⟩
set_option maxRecDepth 100000 in
theorem placeOf_8 (w : World) : Calls Tryz.prog 75 #[.int .i64 8] w fun en w' => en = .returned (.int .i64 (pOf 8)) ∧ w = w' := by
 go_enter Tryz.func75, Tryz.ntmps75
 go_wp2
 exact bodyPost_ret (results_tmp rfl _ _ _) rfl ⟨by simp [pOf], rfl⟩
set_option maxRecDepth 100000 in
theorem placeOf_9 (w : World) : Calls Tryz.prog 75 #[.int .i64 9] w fun en w' => en = .returned (.int .i64 (pOf 9)) ∧ w = w' := by
 go_enter Tryz.func75, Tryz.ntmps75
 go_wp2
 exact bodyPost_ret (results_tmp rfl _ _ _) rfl ⟨by simp [pOf], rfl⟩
set_option maxRecDepth 100000 in
theorem placeOf_10 (w : World) : Calls Tryz.prog 75 #[.int .i64 10] w fun en w' => en = .returned (.int .i64 (pOf 10)) ∧ w = w' := by
 go_enter Tryz.func75, Tryz.ntmps75
 go_wp2
 exact bodyPost_ret (results_tmp rfl _ _ _) rfl ⟨by simp [pOf], rfl⟩
set_option maxRecDepth 100000 in
theorem placeOf_11 (w : World) : Calls Tryz.prog 75 #[.int .i64 11] w fun en w' => en = .returned (.int .i64 (pOf 11)) ∧ w = w' := by
 go_enter Tryz.func75, Tryz.ntmps75
 go_wp2
 exact bodyPost_ret (results_tmp rfl _ _ _) rfl ⟨by simp [pOf], rfl⟩
set_option maxRecDepth 100000 in
theorem placeOf_12 (w : World) : Calls Tryz.prog 75 #[.int .i64 12] w fun en w' => en = .returned (.int .i64 (pOf 12)) ∧ w = w' := by
 go_enter Tryz.func75, Tryz.ntmps75
 go_wp2
 exact bodyPost_ret (results_tmp rfl _ _ _) rfl ⟨by simp [pOf], rfl⟩
set_option maxRecDepth 100000 in
theorem placeOf_13 (w : World) : Calls Tryz.prog 75 #[.int .i64 13] w fun en w' => en = .returned (.int .i64 (pOf 13)) ∧ w = w' := by
 go_enter Tryz.func75, Tryz.ntmps75
 go_wp2
 exact bodyPost_ret (results_tmp rfl _ _ _) rfl ⟨by simp [pOf], rfl⟩
set_option maxRecDepth 100000 in
theorem placeOf_14 (w : World) : Calls Tryz.prog 75 #[.int .i64 14] w fun en w' => en = .returned (.int .i64 (pOf 14)) ∧ w = w' := by
 go_enter Tryz.func75, Tryz.ntmps75
 go_wp2
 exact bodyPost_ret (results_tmp rfl _ _ _) rfl ⟨by simp [pOf], rfl⟩
set_option maxRecDepth 100000 in
theorem placeOf_15 (w : World) : Calls Tryz.prog 75 #[.int .i64 15] w fun en w' => en = .returned (.int .i64 (pOf 15)) ∧ w = w' := by
 go_enter Tryz.func75, Tryz.ntmps75
 go_wp2
 exact bodyPost_ret (results_tmp rfl _ _ _) rfl ⟨by simp [pOf], rfl⟩
set_option maxRecDepth 100000 in
theorem placeOf_16 (w : World) : Calls Tryz.prog 75 #[.int .i64 16] w fun en w' => en = .returned (.int .i64 (pOf 16)) ∧ w = w' := by
 go_enter Tryz.func75, Tryz.ntmps75
 go_wp2
 exact bodyPost_ret (results_tmp rfl _ _ _) rfl ⟨by simp [pOf], rfl⟩
set_option maxRecDepth 100000 in
theorem placeOf_17 (w : World) : Calls Tryz.prog 75 #[.int .i64 17] w fun en w' => en = .returned (.int .i64 (pOf 17)) ∧ w = w' := by
 go_enter Tryz.func75, Tryz.ntmps75
 go_wp2
 exact bodyPost_ret (results_tmp rfl _ _ _) rfl ⟨by simp [pOf], rfl⟩
set_option maxRecDepth 100000 in
theorem placeOf_18 (w : World) : Calls Tryz.prog 75 #[.int .i64 18] w fun en w' => en = .returned (.int .i64 (pOf 18)) ∧ w = w' := by
 go_enter Tryz.func75, Tryz.ntmps75
 go_wp2
 exact bodyPost_ret (results_tmp rfl _ _ _) rfl ⟨by simp [pOf], rfl⟩
set_option maxRecDepth 100000 in
theorem placeOf_19 (w : World) : Calls Tryz.prog 75 #[.int .i64 19] w fun en w' => en = .returned (.int .i64 (pOf 19)) ∧ w = w' := by
 go_enter Tryz.func75, Tryz.ntmps75
 go_wp2
 exact bodyPost_ret (results_tmp rfl _ _ _) rfl ⟨by simp [pOf], rfl⟩
set_option maxRecDepth 100000 in
theorem placeOf_20 (w : World) : Calls Tryz.prog 75 #[.int .i64 20] w fun en w' => en = .returned (.int .i64 (pOf 20)) ∧ w = w' := by
 go_enter Tryz.func75, Tryz.ntmps75
 go_wp2
 exact bodyPost_ret (results_tmp rfl _ _ _) rfl ⟨by simp [pOf], rfl⟩
set_option maxRecDepth 100000 in
theorem placeOf_21 (w : World) : Calls Tryz.prog 75 #[.int .i64 21] w fun en w' => en = .returned (.int .i64 (pOf 21)) ∧ w = w' := by
 go_enter Tryz.func75, Tryz.ntmps75
 go_wp2
 exact bodyPost_ret (results_tmp rfl _ _ _) rfl ⟨by simp [pOf], rfl⟩
set_option maxRecDepth 100000 in
theorem placeOf_22 (w : World) : Calls Tryz.prog 75 #[.int .i64 22] w fun en w' => en = .returned (.int .i64 (pOf 22)) ∧ w = w' := by
 go_enter Tryz.func75, Tryz.ntmps75
 go_wp2
 exact bodyPost_ret (results_tmp rfl _ _ _) rfl ⟨by simp [pOf], rfl⟩
theorem placeOf_n {k : Int} (h : 1 ≤ k ∧ k ≤ 22) (w : World) : Calls Tryz.prog 75 #[.int .i64 k] w fun en w' => en = .returned (.int .i64 (pOf k)) ∧ w = w' :=
 kinds (P := fun k => Calls Tryz.prog 75 #[.int .i64 k] w fun en w' => en = .returned (.int .i64 (pOf k)) ∧ w = w') h ⟨placeOf_1 w, placeOf_2 w, placeOf_3 w, placeOf_4 w, placeOf_5 w, placeOf_6 w, placeOf_7 w, placeOf_8 w, placeOf_9 w, placeOf_10 w, placeOf_11 w, placeOf_12 w, placeOf_13 w, placeOf_14 w, placeOf_15 w, placeOf_16 w, placeOf_17 w, placeOf_18 w, placeOf_19 w, placeOf_20 w, placeOf_21 w, placeOf_22 w⟩
set_option maxRecDepth 100000 in
theorem placeIn_1 (i : Nat) (w : World) : Calls Tryz.prog 148 #[.int .i64 1, .int .i64 i] w fun en w' => en = .returned (.int .i64 (pIn 1 (i == 0))) ∧ w = w' := by
 go_enter Tryz.func148, Tryz.ntmps148
 have hp : Hid (pIn 1 (i == 0) = 6) := hide (by simp [pIn])
 go_wp2
 exact bodyPost_ret (results_tmp rfl _ _ _) rfl ⟨by rw [hp.out]; rfl, rfl⟩
set_option maxRecDepth 100000 in
theorem placeIn_2 (i : Nat) (w : World) : Calls Tryz.prog 148 #[.int .i64 2, .int .i64 i] w fun en w' => en = .returned (.int .i64 (pIn 2 (i == 0))) ∧ w = w' := by
 go_enter Tryz.func148, Tryz.ntmps148
 have hp : Hid (pIn 2 (i == 0) = 6) := hide (by simp [pIn])
 go_wp2
 exact bodyPost_ret (results_tmp rfl _ _ _) rfl ⟨by rw [hp.out]; rfl, rfl⟩
set_option maxRecDepth 100000 in
theorem placeIn_3 (i : Nat) (w : World) : Calls Tryz.prog 148 #[.int .i64 3, .int .i64 i] w fun en w' => en = .returned (.int .i64 (pIn 3 (i == 0))) ∧ w = w' := by
 go_enter Tryz.func148, Tryz.ntmps148
 have hp : Hid (pIn 3 (i == 0) = 7) := hide (by simp [pIn])
 go_wp2
 exact bodyPost_ret (results_tmp rfl _ _ _) rfl ⟨by rw [hp.out]; rfl, rfl⟩
set_option maxRecDepth 100000 in
theorem placeIn_4 (i : Nat) (w : World) : Calls Tryz.prog 148 #[.int .i64 4, .int .i64 i] w fun en w' => en = .returned (.int .i64 (pIn 4 (i == 0))) ∧ w = w' := by
 go_enter Tryz.func148, Tryz.ntmps148
 cases i with
 | zero =>
  go_wp2
  exact bodyPost_ret (results_tmp rfl _ _ _) rfl ⟨by simp [pIn], rfl⟩
 | succ i =>
  have hi : (((i + 1 : Nat) : Int) == 0) = false := by simp; omega
  have hp : Hid (pIn 4 (i + 1 == 0) = 7) := hide (by simp [pIn])
  generalize i + 1 = i1 at *
  go_wp2
  exact bodyPost_ret (results_tmp rfl _ _ _) rfl ⟨by rw [hp.out]; rfl, rfl⟩
set_option maxRecDepth 100000 in
theorem placeIn_5 (i : Nat) (w : World) : Calls Tryz.prog 148 #[.int .i64 5, .int .i64 i] w fun en w' => en = .returned (.int .i64 (pIn 5 (i == 0))) ∧ w = w' := by
 go_enter Tryz.func148, Tryz.ntmps148
 cases i with
 | zero =>
  go_wp2
  exact bodyPost_ret (results_tmp rfl _ _ _) rfl ⟨by simp [pIn], rfl⟩
 | succ i =>
  have hi : (((i + 1 : Nat) : Int) == 0) = false := by simp; omega
  have hp : Hid (pIn 5 (i + 1 == 0) = 7) := hide (by simp [pIn])
  generalize i + 1 = i1 at *
  go_wp2
  exact bodyPost_ret (results_tmp rfl _ _ _) rfl ⟨by rw [hp.out]; rfl, rfl⟩
set_option maxRecDepth 100000 in
theorem placeIn_6 (i : Nat) (w : World) : Calls Tryz.prog 148 #[.int .i64 6, .int .i64 i] w fun en w' => en = .returned (.int .i64 (pIn 6 (i == 0))) ∧ w = w' := by
 go_enter Tryz.func148, Tryz.ntmps148
 have hp : Hid (pIn 6 (i == 0) = 7) := hide (by simp [pIn])
 go_wp2
 exact bodyPost_ret (results_tmp rfl _ _ _) rfl ⟨by rw [hp.out]; rfl, rfl⟩
set_option maxRecDepth 100000 in
theorem placeIn_7 (i : Nat) (w : World) : Calls Tryz.prog 148 #[.int .i64 7, .int .i64 i] w fun en w' => en = .returned (.int .i64 (pIn 7 (i == 0))) ∧ w = w' := by
 go_enter Tryz.func148, Tryz.ntmps148
 have hp : Hid (pIn 7 (i == 0) = 6) := hide (by simp [pIn])
 go_wp2
 exact bodyPost_ret (results_tmp rfl _ _ _) rfl ⟨by rw [hp.out]; rfl, rfl⟩
set_option maxRecDepth 100000 in
theorem placeIn_8 (i : Nat) (w : World) : Calls Tryz.prog 148 #[.int .i64 8, .int .i64 i] w fun en w' => en = .returned (.int .i64 (pIn 8 (i == 0))) ∧ w = w' := by
 go_enter Tryz.func148, Tryz.ntmps148
 have hp : Hid (pIn 8 (i == 0) = 6) := hide (by simp [pIn])
 go_wp2
 exact bodyPost_ret (results_tmp rfl _ _ _) rfl ⟨by rw [hp.out]; rfl, rfl⟩
set_option maxRecDepth 100000 in
theorem placeIn_9 (i : Nat) (w : World) : Calls Tryz.prog 148 #[.int .i64 9, .int .i64 i] w fun en w' => en = .returned (.int .i64 (pIn 9 (i == 0))) ∧ w = w' := by
 go_enter Tryz.func148, Tryz.ntmps148
 have hp : Hid (pIn 9 (i == 0) = 6) := hide (by simp [pIn])
 go_wp2
 exact bodyPost_ret (results_tmp rfl _ _ _) rfl ⟨by rw [hp.out]; rfl, rfl⟩
set_option maxRecDepth 100000 in
theorem placeIn_10 (i : Nat) (w : World) : Calls Tryz.prog 148 #[.int .i64 10, .int .i64 i] w fun en w' => en = .returned (.int .i64 (pIn 10 (i == 0))) ∧ w = w' := by
 go_enter Tryz.func148, Tryz.ntmps148
 have hp : Hid (pIn 10 (i == 0) = 6) := hide (by simp [pIn])
 go_wp2
 exact bodyPost_ret (results_tmp rfl _ _ _) rfl ⟨by rw [hp.out]; rfl, rfl⟩
set_option maxRecDepth 100000 in
theorem placeIn_11 (i : Nat) (w : World) : Calls Tryz.prog 148 #[.int .i64 11, .int .i64 i] w fun en w' => en = .returned (.int .i64 (pIn 11 (i == 0))) ∧ w = w' := by
 go_enter Tryz.func148, Tryz.ntmps148
 have hp : Hid (pIn 11 (i == 0) = 6) := hide (by simp [pIn])
 go_wp2
 exact bodyPost_ret (results_tmp rfl _ _ _) rfl ⟨by rw [hp.out]; rfl, rfl⟩
set_option maxRecDepth 100000 in
theorem placeIn_12 (i : Nat) (w : World) : Calls Tryz.prog 148 #[.int .i64 12, .int .i64 i] w fun en w' => en = .returned (.int .i64 (pIn 12 (i == 0))) ∧ w = w' := by
 go_enter Tryz.func148, Tryz.ntmps148
 have hp : Hid (pIn 12 (i == 0) = 6) := hide (by simp [pIn])
 go_wp2
 exact bodyPost_ret (results_tmp rfl _ _ _) rfl ⟨by rw [hp.out]; rfl, rfl⟩
set_option maxRecDepth 100000 in
theorem placeIn_13 (i : Nat) (w : World) : Calls Tryz.prog 148 #[.int .i64 13, .int .i64 i] w fun en w' => en = .returned (.int .i64 (pIn 13 (i == 0))) ∧ w = w' := by
 go_enter Tryz.func148, Tryz.ntmps148
 have hp : Hid (pIn 13 (i == 0) = 6) := hide (by simp [pIn])
 go_wp2
 exact bodyPost_ret (results_tmp rfl _ _ _) rfl ⟨by rw [hp.out]; rfl, rfl⟩
set_option maxRecDepth 100000 in
theorem placeIn_14 (i : Nat) (w : World) : Calls Tryz.prog 148 #[.int .i64 14, .int .i64 i] w fun en w' => en = .returned (.int .i64 (pIn 14 (i == 0))) ∧ w = w' := by
 go_enter Tryz.func148, Tryz.ntmps148
 have hp : Hid (pIn 14 (i == 0) = 6) := hide (by simp [pIn])
 go_wp2
 exact bodyPost_ret (results_tmp rfl _ _ _) rfl ⟨by rw [hp.out]; rfl, rfl⟩
set_option maxRecDepth 100000 in
theorem placeIn_15 (i : Nat) (w : World) : Calls Tryz.prog 148 #[.int .i64 15, .int .i64 i] w fun en w' => en = .returned (.int .i64 (pIn 15 (i == 0))) ∧ w = w' := by
 go_enter Tryz.func148, Tryz.ntmps148
 have hp : Hid (pIn 15 (i == 0) = 6) := hide (by simp [pIn])
 go_wp2
 exact bodyPost_ret (results_tmp rfl _ _ _) rfl ⟨by rw [hp.out]; rfl, rfl⟩
set_option maxRecDepth 100000 in
theorem placeIn_16 (i : Nat) (w : World) : Calls Tryz.prog 148 #[.int .i64 16, .int .i64 i] w fun en w' => en = .returned (.int .i64 (pIn 16 (i == 0))) ∧ w = w' := by
 go_enter Tryz.func148, Tryz.ntmps148
 have hp : Hid (pIn 16 (i == 0) = 4) := hide (by simp [pIn])
 go_wp2
 exact bodyPost_ret (results_tmp rfl _ _ _) rfl ⟨by rw [hp.out]; rfl, rfl⟩
set_option maxRecDepth 100000 in
theorem placeIn_17 (i : Nat) (w : World) : Calls Tryz.prog 148 #[.int .i64 17, .int .i64 i] w fun en w' => en = .returned (.int .i64 (pIn 17 (i == 0))) ∧ w = w' := by
 go_enter Tryz.func148, Tryz.ntmps148
 have hp : Hid (pIn 17 (i == 0) = 4) := hide (by simp [pIn])
 go_wp2
 exact bodyPost_ret (results_tmp rfl _ _ _) rfl ⟨by rw [hp.out]; rfl, rfl⟩
set_option maxRecDepth 100000 in
theorem placeIn_18 (i : Nat) (w : World) : Calls Tryz.prog 148 #[.int .i64 18, .int .i64 i] w fun en w' => en = .returned (.int .i64 (pIn 18 (i == 0))) ∧ w = w' := by
 go_enter Tryz.func148, Tryz.ntmps148
 have hp : Hid (pIn 18 (i == 0) = 3) := hide (by simp [pIn])
 go_wp2
 exact bodyPost_ret (results_tmp rfl _ _ _) rfl ⟨by rw [hp.out]; rfl, rfl⟩
set_option maxRecDepth 100000 in
theorem placeIn_19 (i : Nat) (w : World) : Calls Tryz.prog 148 #[.int .i64 19, .int .i64 i] w fun en w' => en = .returned (.int .i64 (pIn 19 (i == 0))) ∧ w = w' := by
 go_enter Tryz.func148, Tryz.ntmps148
 cases i with
 | zero =>
  go_wp2
  exact bodyPost_ret (results_tmp rfl _ _ _) rfl ⟨by simp [pIn], rfl⟩
 | succ i =>
  have hi : (((i + 1 : Nat) : Int) == 0) = false := by simp; omega
  have hp : Hid (pIn 19 (i + 1 == 0) = 1) := hide (by simp [pIn])
  generalize i + 1 = i1 at *
  go_wp2
  exact bodyPost_ret (results_tmp rfl _ _ _) rfl ⟨by rw [hp.out]; rfl, rfl⟩
set_option maxRecDepth 100000 in
theorem placeIn_20 (i : Nat) (w : World) : Calls Tryz.prog 148 #[.int .i64 20, .int .i64 i] w fun en w' => en = .returned (.int .i64 (pIn 20 (i == 0))) ∧ w = w' := by
 go_enter Tryz.func148, Tryz.ntmps148
 cases i with
 | zero =>
  go_wp2
  exact bodyPost_ret (results_tmp rfl _ _ _) rfl ⟨by simp [pIn], rfl⟩
 | succ i =>
  have hi : (((i + 1 : Nat) : Int) == 0) = false := by simp; omega
  have hp : Hid (pIn 20 (i + 1 == 0) = 1) := hide (by simp [pIn])
  generalize i + 1 = i1 at *
  go_wp2
  exact bodyPost_ret (results_tmp rfl _ _ _) rfl ⟨by rw [hp.out]; rfl, rfl⟩
set_option maxRecDepth 100000 in
theorem placeIn_21 (i : Nat) (w : World) : Calls Tryz.prog 148 #[.int .i64 21, .int .i64 i] w fun en w' => en = .returned (.int .i64 (pIn 21 (i == 0))) ∧ w = w' := by
 go_enter Tryz.func148, Tryz.ntmps148
 have hp : Hid (pIn 21 (i == 0) = 0) := hide (by simp [pIn])
 go_wp2
 exact bodyPost_ret (results_tmp rfl _ _ _) rfl ⟨by rw [hp.out]; rfl, rfl⟩
set_option maxRecDepth 100000 in
theorem placeIn_22 (i : Nat) (w : World) : Calls Tryz.prog 148 #[.int .i64 22, .int .i64 i] w fun en w' => en = .returned (.int .i64 (pIn 22 (i == 0))) ∧ w = w' := by
 go_enter Tryz.func148, Tryz.ntmps148
 have hp : Hid (pIn 22 (i == 0) = 0) := hide (by simp [pIn])
 go_wp2
 exact bodyPost_ret (results_tmp rfl _ _ _) rfl ⟨by rw [hp.out]; rfl, rfl⟩
theorem placeIn_n {k : Int} (h : 1 ≤ k ∧ k ≤ 22) (i : Nat) (w : World) : Calls Tryz.prog 148 #[.int .i64 k, .int .i64 i] w fun en w' => en = .returned (.int .i64 (pIn k (i == 0))) ∧ w = w' :=
 kinds (P := fun k => Calls Tryz.prog 148 #[.int .i64 k, .int .i64 i] w fun en w' => en = .returned (.int .i64 (pIn k (i == 0))) ∧ w = w') h ⟨placeIn_1 i w, placeIn_2 i w, placeIn_3 i w, placeIn_4 i w, placeIn_5 i w, placeIn_6 i w, placeIn_7 i w, placeIn_8 i w, placeIn_9 i w, placeIn_10 i w, placeIn_11 i w, placeIn_12 i w, placeIn_13 i w, placeIn_14 i w, placeIn_15 i w, placeIn_16 i w, placeIn_17 i w, placeIn_18 i w, placeIn_19 i w, placeIn_20 i w, placeIn_21 i w, placeIn_22 i w⟩
/-- a number more -/
def numW (s : Bool) (xs : List Int) (p : Ps) : Ps := if 456 < tl xs xs.length then { p with o := true } else wrd (zText (sg s (val xs))).data.toList p
theorem num_ok (s : Bool) (xs : List Int) {p : Ps} (h : Ok4 p) : Ok4 (numW s xs p) := by
 unfold numW
 split
 ·intro h2
  cases h2
 ·exact wrd_ok _ h
theorem zText_size {w : World} {a : Option Addr} {l c : Nat} {s : Bool} {xs : List Int} (h : Rd w a l c xs) : (zText (sg s (val xs))).size ≤ 10 * (l + 1) + 1 := by
 have h1 := dec_bound (w := w) (a := a) (l := l) (c := c) (n := val xs) ⟨xs, h, rfl⟩
 unfold zText
 cases s with
 | false =>
  have h0 : 0 ≤ val xs := (show Nm w a l c (val xs) from ⟨xs, h, rfl⟩).nonneg
  rw [show sg false (val xs) = val xs from rfl, if_neg (by omega)]
  show (Lib.decDigits (val xs).toNat).toArray.size ≤ _
  simp
  omega
 | true =>
  have h0 : 0 ≤ val xs := (show Nm w a l c (val xs) from ⟨xs, h, rfl⟩).nonneg
  rw [show sg true (val xs) = - val xs from rfl]
  split
  ·rw [Int.neg_neg, ByteArray.size_append]
   show 1 + (Lib.decDigits (val xs).toNat).toArray.size ≤ _
   simp
   omega
  ·rename_i h2
   have e : val xs = 0 := by omega
   rw [e] at h1 ⊢
   show (Lib.decDigits (0 : Int).toNat).toArray.size ≤ _
   simp at h1 ⊢
   omega
theorem PrS.below {b : Nat} {p : Ps} {w w' : World} (h : PrS b p w) (hb : Below w.heap.size w w') : PrS b p w' := by
 obtain ⟨q, v, hq, h1, h2⟩ := h
 exact ⟨q, v, hq, (hb.block b (lt_of_block h1)).trans h1, h2.kept (row := none) ⟨hb.os, hb.tape, hb.output, hb.size, fun i hi _ => hb.block i hi⟩ (by cases v.ownBlock <;> simp)⟩
theorem KO.low {b : Nat} {w w' : World} (hb : b ≤ w.heap.size) (h : Below w.heap.size w w') : KO b w w' := (KO.refl b w).below hb h
theorem PrS.lt {b : Nat} {p : Ps} {w : World} (h : PrS b p w) : b < w.heap.size := by
 obtain ⟨q, v, hq, h1, h2⟩ := h
 exact lt_of_block h1
set_option maxRecDepth 100000 in
set_option maxHeartbeats 1600000 in
theorem number_n {b : Nat} {p : Ps} {w : World} (h : PrS b p w) (hk : Ok4 p) (htab : Tab w) {s : Bool} {a : Option Addr} {l c : Nat} {xs : List Int} (hr : Rd w a l c xs) (hl : l ≤ 1073741824) (hb : b < w.heap.size) :
  Calls Tryz.prog 116 #[.pointer (some ⟨b, 0, none⟩), .agg #[.bool s, .slice a l c]] w fun e w' => e = .returned (.tuple #[]) ∧ PrS b (numW s xs p) w' ∧ KO b w w' := by
 have hzs := zText_size (s := s) hr
 have hxl : xs.length = l := hr.1
 go_enter Tryz.func116, Tryz.ntmps116
 go_wp2_with fail
 have x := zb_new w s a l c
 have b0 := below_alloc w (.cells #[.bool s, .slice a l c] 25)
 replace hr := hr.below b0
 replace htab := htab.below b0
 replace h := h.below b0
 have k0 := KO.low (Nat.le_of_lt hb) b0
 generalize w.alloc (.cells #[.bool s, .slice a l c] 25) = wb at *
 generalize hp : w.heap.size = pb at *
 replace hp := hide hp
 refine (Ml.zlimbs_n (s := s) hr (by omega)).mono ?_
 rintro e w1 ⟨rfl, k1⟩
 have y1 := x.below k1
 have u0 := y1.c0
 have u1 := y1.c1
 have hb1 := h.lt
 replace k0 := k0.trans (KO.low (Nat.le_of_lt hb1) k1)
 replace hr := hr.below k1
 replace htab := htab.below k1
 replace h := h.below k1
 have hnum : Hid (numW s xs p = if 456 < tl xs l then { p with o := true } else wrd (zText (sg s (val xs))).data.toList p) := hide (by rw [← hxl]; rfl)
 clear hxl
 generalize hL : tl xs l = L at *
 clear hL
 by_cases h4 : 456 < L
 ·have hc : decide ((456 : Int) < (L : Int)) = true := by rw [decide_eq_true_eq]; omega
  obtain ⟨q, v, hq, hv⟩ := h
  have c3 := hv.c3
  have f3 := hv.f 3
  have g1 := hide (hv.past true)
  have g2 := hide (k0.trans (KO.set 3 (.bool true)))
  go_wp2
  refine bodyPost_ret (results_none rfl _ _ _) rfl ?_
  refine ⟨rfl, ?_, g2.out⟩
  rw [hnum.out, if_pos h4]
  exact ⟨q, v, hq, g1.out⟩
 ·have hc : decide ((456 : Int) < (L : Int)) = false := by rw [decide_eq_false_iff_not]; omega
  have ht := hide (ztext_n (s := s) ⟨val xs, ⟨xs, hr, rfl⟩, rfl⟩ (by omega) htab)
  go_wp2_with fail
  refine ht.out.mono ?_
  rintro e w2 ⟨rfl, k2⟩
  have hb1 := h.lt
  replace k0 := k0.trans (KO.low (Nat.le_of_lt hb1) k2)
  replace h := h.below k2
  have hw := hide (word_n h hk (zText (sg s (val xs))) (by omega))
  go_wp2_with fail
  refine hw.out.mono ?_
  rintro e w3 ⟨rfl, h3, k3⟩
  go_wp2
  go_end0
  refine ⟨rfl, ?_, k0.trans k3⟩
  rw [hnum.out, if_neg h4]
  exact h3
end Sx
end Go.Proofs.YtgpaajolcpgeaaaGreatDoor

namespace Go.Proofs.YtgpaajolcpgeaaaGreatDoor
open Go.RowKit
namespace Sx

def gl (g : Bool) (p : Ps) : Ps := { p with g := g }
theorem gl_ok (g : Bool) {p : Ps} (h : Ok4 p) : Ok4 (gl g p) := h
def nmsW (l : List ByteArray) (p : Ps) : Ps := l.foldl (fun q n => wrd n.data.toList q) p
theorem nms_ok (l : List ByteArray) : ∀ {p : Ps}, Ok4 p → Ok4 (nmsW l p) := by
 induction l with
 | nil => exact fun h => h
 | cons a l ih => exact fun h => ih (wrd_ok _ h)
abbrev Pt := Tr → Int → Bool → Ps → Ps
/-- a kind's word, its names, its one kid -/
def ahD (pt : Pt) (t : Tr) (last : Bool) (p : Ps) : Ps :=
 pt ((ksO t).headD t) (pIn (lbO t).k true) last
  ((if qnt (lbO t).k then wrd dot.data.toList else id) (nmsW (lbO t).nms (gl ((lbO t).k == 3) (wrd (wd (lbO t).k.toNat).data.toList p))))
/-- the first i kids, and the word between each two -/
def btD (pt : Pt) (t : Tr) (last : Bool) : Nat → Ps → Ps
 | 0, p => p
 | i + 1, p => pt ((ksO t).getD i t) (pIn (lbO t).k (i == 0)) (last && (i + 1 == (ksO t).length)) ((if 0 < i then wrd (wd (lbO t).k.toNat).data.toList else id) (btD pt t last i p))
def bareD (pt : Pt) (t : Tr) (last : Bool) (p : Ps) : Ps :=
 if (lbO t).k = 1 then numW (lbO t).s (lbO t).xs p
 else if (lbO t).k = 2 then wrd (lbO t).nm.data.toList p
 else if (lbO t).k = 7 ∨ (lbO t).k = 8 then wrd (wd (lbO t).k.toNat).data.toList p
 else if (lbO t).k = 6 ∨ (lbO t).k = 15 then ahD pt t last (numW (lbO t).s (lbO t).xs p)
 else if (lbO t).k = 3 ∨ (lbO t).k = 16 ∨ (lbO t).k = 21 ∨ (lbO t).k = 22 then ahD pt t last p
 else btD pt t last (ksO t).length p
def parF : Nat → Pt
 | 0, _, _, _, p => p
 | n + 1, t, pl, last, p =>
  if p.o then p
  else if pOf (lbO t).k < pl ∨ (qnt (lbO t).k = true ∧ last = false) then wrd cls'.data.toList (gl true (bareD (parF n) t true (gl true (wrd opn.data.toList p))))
  else bareD (parF n) t last p
def PtO (pt : Pt) : Prop := ∀ t pl last p, Ok4 p → Ok4 (pt t pl last p)
theorem ah_ok {pt : Pt} (h : PtO pt) (t : Tr) (last : Bool) {p : Ps} (hp : Ok4 p) : Ok4 (ahD pt t last p) := by
 refine h _ _ _ _ ?_
 split
 ·exact wrd_ok _ (nms_ok _ (gl_ok _ (wrd_ok _ hp)))
 ·exact nms_ok _ (gl_ok _ (wrd_ok _ hp))
theorem bt_ok {pt : Pt} (h : PtO pt) (t : Tr) (last : Bool) (i : Nat) {p : Ps} (hp : Ok4 p) : Ok4 (btD pt t last i p) := by
 induction i with
 | zero => exact hp
 | succ i ih =>
  refine h _ _ _ _ ?_
  split
  ·exact wrd_ok _ ih
  ·exact ih
theorem bare_ok {pt : Pt} (h : PtO pt) (t : Tr) (last : Bool) {p : Ps} (hp : Ok4 p) : Ok4 (bareD pt t last p) := by
 unfold bareD
 repeat' split
 ·exact num_ok _ _ hp
 ·exact wrd_ok _ hp
 ·exact wrd_ok _ hp
 ·exact ah_ok h t last (num_ok _ _ hp)
 ·exact ah_ok h t last hp
 ·exact bt_ok h t last _ hp
theorem par_ok (n : Nat) : PtO (parF n) := by
 induction n with
 | zero => exact fun _ _ _ _ h => h
 | succ n ih =>
  intro t pl last p hp
  unfold parF
  repeat' split
  ·exact hp
  ·exact wrd_ok _ (gl_ok _ (bare_ok ih t true (gl_ok _ (wrd_ok _ hp))))
  ·exact bare_ok ih t last hp
/-- what a walk needs of the package's variables, however it writes above -/
def En4 (b : Nat) (w : World) : Prop := ∀ w', Below b w w' → Wo w' ∧ Tab w'
theorem En4.ko {b : Nat} {w w' : World} (h : En4 b w) (k : KO b w w') : En4 b w' := fun w2 h2 => h w2 (k.bel.trans h2)
theorem En4.wo {b : Nat} {w : World} (h : En4 b w) : Wo w := (h w (Below.refl _ _)).1
theorem En4.tab {b : Nat} {w : World} (h : En4 b w) : Tab w := (h w (Below.refl _ _)).2
theorem KO.kf {b : Nat} {w w' : World} (k : KO b w w') : Kf (fun i => i < b) w w' := ⟨k.bel.size, fun i hi _ => k.bel.block i hi⟩
/-- all of a tree's nodes stand, and are no greater than what a machine bears -/
def St4 (t : Tr) : Prop := ∀ n u, At4 n t u → stB (lbO u) (ksO u) = true ∧ Bd4 (lbO u) ∧ (ksO u).length ≤ 1073741824
theorem St4.kid {t k : Tr} (h : St4 t) (hk : k ∈ ksO t) : St4 k := fun n u hu => h (n + 1) u ⟨k, hk, hu⟩
theorem St4.self {t : Tr} (h : St4 t) : stB (lbO t) (ksO t) = true ∧ Bd4 (lbO t) ∧ (ksO t).length ≤ 1073741824 := h 0 t rfl
theorem St4.kind {t : Tr} (h : St4 t) : 1 ≤ (lbO t).k ∧ (lbO t).k ≤ 22 := by
 refine kind_of fun e => ?_
 have := h.self.1
 unfold stB at this
 rw [e] at this
 simp at this
def PtR (b : Nat) (w : World) (p : Ps) (e : Ending) (w' : World) : Prop := e = .returned (.tuple #[]) ∧ PrS b p w' ∧ KO b w w'
/-- what is given to a walk -/
structure Gv (n b : Nat) (w : World) (x : TC) (t : Tr) (p : Ps) : Prop where
 en : En4 b w
 pr : PrS b p w
 ok : Ok4 p
 rt : Rt (fun k => k < b) w x t
 st : St4 t
 dp : ¬ Dp n t
theorem Gv.ko {n b : Nat} {w w' : World} {x : TC} {t : Tr} {p p' : Ps} (h : Gv n b w x t p) (k : KO b w w') (hp : PrS b p' w') (ho : Ok4 p') : Gv n b w' x t p' := ⟨h.en.ko k, hp, ho, h.rt.kf k.kf, h.st, h.dp⟩
theorem Gv.low {n b : Nat} {w w' : World} {x : TC} {t : Tr} {p : Ps} (h : Gv n b w x t p) (k : Below w.heap.size w w') : Gv n b w' x t p := h.ko (KO.low (Nat.le_of_lt h.pr.lt) k) (h.pr.below k) h.ok
/-- part, bare, ahead, between do as the data say -/
def PartOk (n : Nat) : Prop := ∀ (b : Nat) (w : World) (x : TC) (t : Tr) (pl : Int) (last : Bool) (p : Ps), Gv n b w x t p → Calls Tryz.prog 41 #[.pointer (some ⟨b, 0, none⟩), x.val, .int .i64 pl, .bool last] w fun e w' => PtR b w (parF n t pl last p) e w'
def FnOk (K n : Nat) (D : Tr → Bool → Ps → Ps) (C : Int → Prop) : Prop := ∀ (b : Nat) (w : World) (x : TC) (t : Tr) (last : Bool) (p : Ps), C (lbO t).k → Gv (n + 1) b w x t p → Calls Tryz.prog K #[.pointer (some ⟨b, 0, none⟩), x.val, .bool last] w fun e w' => PtR b w (D t last p) e w'
theorem Gv.key {n b : Nat} {w : World} {x : TC} {t : Tr} {p : Ps} (h : Gv n b w x t p) : (lbO t).k = x.k := by
 obtain ⟨l, ks, rfl⟩ := rt_of h.rt
 exact (rt_nd h.rt).1.k
set_option maxRecDepth 100000 in
set_option maxHeartbeats 3200000 in
theorem part_step (n : Nat) (hbare : FnOk 78 n (bareD (parF n)) fun _ => True) : PartOk (n + 1) := by
 intro b w x t pl last p h
 have hk := h.key
 have hkr := h.st.kind
 have hnb := h.pr.lt
 have b0 := below_alloc w (.cells #[.int .i64 x.k, .string x.nm, .slice x.na x.nn x.nc, .bool x.s, .slice x.a x.l x.c, .slice x.ka x.kn x.kc] 28)
 have y0 := vb_new w x
 have h0 := h.low b0
 have k0 := hide (KO.low (Nat.le_of_lt hnb) b0)
 have e0 := y0.c0
 have hne : w.heap.size ≠ b := by omega
 have hpF : Hid (parF (n + 1) t pl last p = if p.o then p else if pOf x.k < pl ∨ (qnt x.k = true ∧ last = false) then wrd cls'.data.toList (gl true (bareD (parF n) t true (gl true (wrd opn.data.toList p)))) else bareD (parF n) t last p) := hide (by rw [← hk]; rfl)
 rw [hk] at hkr
 obtain ⟨q, v, hq, hv⟩ := h0.pr
 have c3 := hv.c3
 have hplo := hide (placeOf_n (k := x.k) hkr)
 clear h hv hk
 generalize hob : p.o = o at *
 go_enter Tryz.func41, Tryz.ntmps41
 cases o with
 | true =>
  go_wp2
  go_end0
  exact ⟨rfl, by rw [hpF.out]; first | exact h0.pr | (rw [if_pos True.intro]; exact h0.pr), k0.out⟩
 | false =>
  replace hpF := hide (hpF.out.trans (if_neg (by simp)))
  replace b0 := hide b0
  go_wp2_with fail
  generalize w.alloc (.cells #[.int .i64 x.k, .string x.nm, .slice x.na x.nn x.nc, .bool x.s, .slice x.a x.l x.c, .slice x.ka x.kn x.kc] 28) = w0 at *
  generalize w.heap.size = bt at *
  clear b0
  refine (hplo.out w0).mono ?_
  rintro e w1 ⟨rfl, rfl⟩
  clear hplo c3
  by_cases h1 : pOf x.k < pl
  ·have hd : decide (pOf x.k < pl) = true := decide_eq_true h1
   replace hpF := hide (hpF.out.trans (if_pos (.inl h1)))
   go_wp2_with fail
   refine (word_n h0.pr h0.ok ⟨#[40]⟩ (by decide)).mono ?_
   rintro e w1 ⟨rfl, p1, k1⟩
   have e0 := (k1.vb hne y0).c0
   have y1 := k1.vb hne y0
   have h1 := h0.ko k1 p1 (wrd_ok _ h0.ok)
   have ka := hide (k0.out.trans k1)
   clear h0 y0 k1 k0 p1
   obtain ⟨q1, v1, hq1, hv1⟩ := h1.pr
   have c2 := hv1.c2
   have f2 := hv1.f 2
   have p2 : PrS b (gl true (wrd (⟨#[40]⟩ : ByteArray).data.toList p)) (w1.setCell ⟨b, 2, none⟩ (.bool true)) := ⟨q1, v1, hq1, hv1.glue true⟩
   have k2 : KO b w1 (w1.setCell ⟨b, 2, none⟩ (.bool true)) := KO.set 2 (.bool true)
   have h2 := h1.ko k2 p2 (gl_ok _ h1.ok)
   have y2 := k2.vb hne y1
   have kb := hide (ka.out.trans k2)
   clear h1 hv1 ka k2 p2
   have a0 := y2.c0
   have a1 := y2.c1
   have a2 := y2.c2
   have a3 := y2.c3
   have a4 := y2.c4
   have a5 := y2.c5
   go_wp2_with fail
   generalize w1.setCell ⟨b, 2, none⟩ (.bool true) = w2 at *
   clear a0 a1 a2 a3 a4 a5
   refine (hbare b w2 x t true _ trivial h2).mono ?_
   rintro e w3 ⟨rfl, p3, k3⟩
   have h3 := h2.ko k3 p3 (bare_ok (par_ok n) t true h2.ok)
   have kc := hide (kb.out.trans k3)
   clear h2 y2 k3 kb p3
   obtain ⟨q3, v3, hq3, hv3⟩ := h3.pr
   have d2 := hv3.c2
   have g2 := hv3.f 2
   have p4 : PrS b (gl true (bareD (parF n) t true (gl true (wrd (⟨#[40]⟩ : ByteArray).data.toList p)))) (w3.setCell ⟨b, 2, none⟩ (.bool true)) := ⟨q3, v3, hq3, hv3.glue true⟩
   have k4 : KO b w3 (w3.setCell ⟨b, 2, none⟩ (.bool true)) := KO.set 2 (.bool true)
   have kd := hide (kc.out.trans k4)
   have o4 : Ok4 (gl true (bareD (parF n) t true (gl true (wrd (⟨#[40]⟩ : ByteArray).data.toList p)))) := gl_ok _ h3.ok
   clear h3 hv3 kc k4
   go_wp2_with fail
   generalize w3.setCell ⟨b, 2, none⟩ (.bool true) = w4 at *
   refine (word_n p4 o4 ⟨#[41]⟩ (by decide)).mono ?_
   rintro e w5 ⟨rfl, p5, k5⟩
   go_wp2
   go_end0
   exact ⟨rfl, by rw [hpF.out]; exact p5, kd.out.trans k5⟩

  ·have hd : decide (pOf x.k < pl) = false := decide_eq_false h1
   have hqn := hide (isQuantifier_n x.k w0)
   go_wp2_with fail
   refine hqn.out.mono ?_
   rintro e w2 ⟨rfl, rfl⟩
   clear hqn
   generalize hqk : qnt x.k = qk at *
   by_cases h2 : qk = true ∧ last = false
   ·replace hpF := hide (hpF.out.trans (if_pos (.inr h2)))
    obtain ⟨rfl, rfl⟩ := h2
    go_wp2_with fail
    refine (word_n h0.pr h0.ok ⟨#[40]⟩ (by decide)).mono ?_
    rintro e w1 ⟨rfl, p1, k1⟩
    have e0 := (k1.vb hne y0).c0
    have y1 := k1.vb hne y0
    have h1 := h0.ko k1 p1 (wrd_ok _ h0.ok)
    have ka := hide (k0.out.trans k1)
    clear h0 y0 k1 k0 p1
    obtain ⟨q1, v1, hq1, hv1⟩ := h1.pr
    have c2 := hv1.c2
    have f2 := hv1.f 2
    have p2 : PrS b (gl true (wrd (⟨#[40]⟩ : ByteArray).data.toList p)) (w1.setCell ⟨b, 2, none⟩ (.bool true)) := ⟨q1, v1, hq1, hv1.glue true⟩
    have k2 : KO b w1 (w1.setCell ⟨b, 2, none⟩ (.bool true)) := KO.set 2 (.bool true)
    have h2 := h1.ko k2 p2 (gl_ok _ h1.ok)
    have y2 := k2.vb hne y1
    have kb := hide (ka.out.trans k2)
    clear h1 hv1 ka k2 p2
    have a0 := y2.c0
    have a1 := y2.c1
    have a2 := y2.c2
    have a3 := y2.c3
    have a4 := y2.c4
    have a5 := y2.c5
    go_wp2_with fail
    generalize w1.setCell ⟨b, 2, none⟩ (.bool true) = w2 at *
    clear a0 a1 a2 a3 a4 a5
    refine (hbare b w2 x t true _ trivial h2).mono ?_
    rintro e w3 ⟨rfl, p3, k3⟩
    have h3 := h2.ko k3 p3 (bare_ok (par_ok n) t true h2.ok)
    have kc := hide (kb.out.trans k3)
    clear h2 y2 k3 kb p3
    obtain ⟨q3, v3, hq3, hv3⟩ := h3.pr
    have d2 := hv3.c2
    have g2 := hv3.f 2
    have p4 : PrS b (gl true (bareD (parF n) t true (gl true (wrd (⟨#[40]⟩ : ByteArray).data.toList p)))) (w3.setCell ⟨b, 2, none⟩ (.bool true)) := ⟨q3, v3, hq3, hv3.glue true⟩
    have k4 : KO b w3 (w3.setCell ⟨b, 2, none⟩ (.bool true)) := KO.set 2 (.bool true)
    have kd := hide (kc.out.trans k4)
    have o4 : Ok4 (gl true (bareD (parF n) t true (gl true (wrd (⟨#[40]⟩ : ByteArray).data.toList p)))) := gl_ok _ h3.ok
    clear h3 hv3 kc k4
    go_wp2_with fail
    generalize w3.setCell ⟨b, 2, none⟩ (.bool true) = w4 at *
    refine (word_n p4 o4 ⟨#[41]⟩ (by decide)).mono ?_
    rintro e w5 ⟨rfl, p5, k5⟩
    go_wp2
    go_end0
    exact ⟨rfl, by rw [hpF.out]; exact p5, kd.out.trans k5⟩

   ·replace hpF := hide (hpF.out.trans (if_neg (by rintro (h | h); omega; exact h2 h)))
    have a0 := y0.c0
    have a1 := y0.c1
    have a2 := y0.c2
    have a3 := y0.c3
    have a4 := y0.c4
    have a5 := y0.c5
    have hbr := hide (hbare b w0 x t last _ trivial h0)
    cases qk with
    | false =>
     go_wp2_with fail
     refine hbr.out.mono ?_
     rintro e w3 ⟨rfl, p3, k3⟩
     go_wp2
     go_end0
     exact ⟨rfl, by rw [hpF.out]; exact p3, k0.out.trans k3⟩
    | true =>
     have hlt : last = true := by cases last <;> simp at h2 ⊢
     subst hlt
     go_wp2_with fail
     refine hbr.out.mono ?_
     rintro e w3 ⟨rfl, p3, k3⟩
     go_wp2
     go_end0
     exact ⟨rfl, by rw [hpF.out]; exact p3, k0.out.trans k3⟩
end Sx
end Go.Proofs.YtgpaajolcpgeaaaGreatDoor

namespace Go.Proofs.YtgpaajolcpgeaaaGreatDoor
open Go.RowKit
namespace Sx

abbrev AhOk (n : Nat) : Prop := FnOk 117 n (ahD (parF n)) fun k => k = 3 ∨ k = 6 ∨ k = 15 ∨ k = 16 ∨ k = 21 ∨ k = 22
abbrev BtOk (n : Nat) : Prop := FnOk 118 n (fun t last p => btD (parF n) t last (ksO t).length p) fun k => k = 4 ∨ k = 5 ∨ (9 ≤ k ∧ k ≤ 14) ∨ (17 ≤ k ∧ k ≤ 20)
/-- what a tree's number, its name are -/
theorem Gv.num {n b : Nat} {w : World} {x : TC} {t : Tr} {p : Ps} (h : Gv n b w x t p) : (lbO t).s = x.s ∧ Rd w x.a x.l x.c (lbO t).xs ∧ x.l ≤ 1073741824 ∧ (lbO t).nm = x.nm ∧ x.nm.size ≤ 1073741824 := by
 have hB := h.st.self.2.1
 obtain ⟨l, ks, rfl⟩ := rt_of h.rt
 have hr := (rt_nd h.rt).1
 refine ⟨hr.s, hr.rd, ?_, hr.nm, ?_⟩
 ·rw [← hr.rd.1]
  exact hB.xs
 ·rw [← hr.nm]
  exact hB.nm
set_option maxRecDepth 100000 in
set_option maxHeartbeats 3200000 in
theorem bare_1 {n b : Nat} {w : World} {x : TC} {t : Tr} {p : Ps} {last : Bool} (_ha : AhOk n) (_hbt : BtOk n) (hkk : x.k = 1) (h : Gv (n + 1) b w x t p) : Calls Tryz.prog 78 #[.pointer (some ⟨b, 0, none⟩), x.val, .bool last] w fun e w' => PtR b w (bareD (parF n) t last p) e w' := by
 have hk := h.key
 have hnb := h.pr.lt
 have hck := hkk
 rw [← hk] at hck
 obtain ⟨k, nm, na, nn, nc, s, a, l, c, ka, kn, kc⟩ := x
 dsimp only at hk hkk
 subst hkk
 have b0 := below_alloc w (.cells #[.int .i64 1, .string nm, .slice na nn nc, .bool s, .slice a l c, .slice ka kn kc] 28)
 have y0 : VB _ _ ⟨1, nm, na, nn, nc, s, a, l, c, ka, kn, kc⟩ := vb_new w ⟨1, nm, na, nn, nc, s, a, l, c, ka, kn, kc⟩
 have h0 := h.low b0
 have k0 := hide (KO.low (Nat.le_of_lt hnb) b0)
 have a0 := y0.c0
 have a1 := y0.c1
 have a2 := y0.c2
 have a3 := y0.c3
 have a4 := y0.c4
 have a5 := y0.c5
 have hne : w.heap.size ≠ b := by omega
 clear h hk
 replace b0 := hide b0
 dsimp only at *
 obtain ⟨hs, hr, hxl, hnm, hns⟩ := h0.num
 have hF : Hid (bareD (parF n) t last p = numW s (lbO t).xs p) := hide (by unfold bareD; rw [if_pos hck, hs])
 go_enter Tryz.func78, Tryz.ntmps78
 go_wp2_with fail
 generalize w.alloc (.cells #[.int .i64 1, .string nm, .slice na nn nc, .bool s, .slice a l c, .slice ka kn kc] 28) = w0 at *
 refine (number_n h0.pr h0.ok h0.en.tab hr hxl h0.pr.lt).mono ?_
 rintro e w1 ⟨rfl, p1, k1⟩
 go_wp2
 go_end0
 exact ⟨rfl, by rw [hF.out]; exact p1, k0.out.trans k1⟩
set_option maxRecDepth 100000 in
set_option maxHeartbeats 3200000 in
theorem bare_2 {n b : Nat} {w : World} {x : TC} {t : Tr} {p : Ps} {last : Bool} (_ha : AhOk n) (_hbt : BtOk n) (hkk : x.k = 2) (h : Gv (n + 1) b w x t p) : Calls Tryz.prog 78 #[.pointer (some ⟨b, 0, none⟩), x.val, .bool last] w fun e w' => PtR b w (bareD (parF n) t last p) e w' := by
 have hk := h.key
 have hnb := h.pr.lt
 have hck := hkk
 rw [← hk] at hck
 obtain ⟨k, nm, na, nn, nc, s, a, l, c, ka, kn, kc⟩ := x
 dsimp only at hk hkk
 subst hkk
 have b0 := below_alloc w (.cells #[.int .i64 2, .string nm, .slice na nn nc, .bool s, .slice a l c, .slice ka kn kc] 28)
 have y0 : VB _ _ ⟨2, nm, na, nn, nc, s, a, l, c, ka, kn, kc⟩ := vb_new w ⟨2, nm, na, nn, nc, s, a, l, c, ka, kn, kc⟩
 have h0 := h.low b0
 have k0 := hide (KO.low (Nat.le_of_lt hnb) b0)
 have a0 := y0.c0
 have a1 := y0.c1
 have a2 := y0.c2
 have a3 := y0.c3
 have a4 := y0.c4
 have a5 := y0.c5
 have hne : w.heap.size ≠ b := by omega
 clear h hk
 replace b0 := hide b0
 dsimp only at *
 obtain ⟨hs, hr, hxl, hnm, hns⟩ := h0.num
 have hF : Hid (bareD (parF n) t last p = wrd nm.data.toList p) := hide (by unfold bareD; rw [if_neg (by omega), if_pos hck, hnm])
 go_enter Tryz.func78, Tryz.ntmps78
 go_wp2_with fail
 generalize w.alloc (.cells #[.int .i64 2, .string nm, .slice na nn nc, .bool s, .slice a l c, .slice ka kn kc] 28) = w0 at *
 refine (word_n h0.pr h0.ok nm (by omega)).mono ?_
 rintro e w1 ⟨rfl, p1, k1⟩
 go_wp2
 go_end0
 exact ⟨rfl, by rw [hF.out]; exact p1, k0.out.trans k1⟩
set_option maxRecDepth 100000 in
set_option maxHeartbeats 3200000 in
theorem bare_7 {n b : Nat} {w : World} {x : TC} {t : Tr} {p : Ps} {last : Bool} (_ha : AhOk n) (_hbt : BtOk n) (hkk : x.k = 7) (h : Gv (n + 1) b w x t p) : Calls Tryz.prog 78 #[.pointer (some ⟨b, 0, none⟩), x.val, .bool last] w fun e w' => PtR b w (bareD (parF n) t last p) e w' := by
 have hk := h.key
 have hnb := h.pr.lt
 have hck := hkk
 rw [← hk] at hck
 obtain ⟨k, nm, na, nn, nc, s, a, l, c, ka, kn, kc⟩ := x
 dsimp only at hk hkk
 subst hkk
 have b0 := below_alloc w (.cells #[.int .i64 7, .string nm, .slice na nn nc, .bool s, .slice a l c, .slice ka kn kc] 28)
 have y0 : VB _ _ ⟨7, nm, na, nn, nc, s, a, l, c, ka, kn, kc⟩ := vb_new w ⟨7, nm, na, nn, nc, s, a, l, c, ka, kn, kc⟩
 have h0 := h.low b0
 have k0 := hide (KO.low (Nat.le_of_lt hnb) b0)
 have a0 := y0.c0
 have a1 := y0.c1
 have a2 := y0.c2
 have a3 := y0.c3
 have a4 := y0.c4
 have a5 := y0.c5
 have hne : w.heap.size ≠ b := by omega
 clear h hk
 replace b0 := hide b0
 dsimp only at *
 have hwo := h0.en.wo.cell (k := 7) (by decide)
 have hF : Hid (bareD (parF n) t last p = wrd (wd 7).data.toList p) := hide (by unfold bareD; rw [if_neg (by omega), if_neg (by omega), if_pos (by omega), hck]; rfl)
 go_enter Tryz.func78, Tryz.ntmps78
 go_wp2_with fail
 generalize w.alloc (.cells #[.int .i64 7, .string nm, .slice na nn nc, .bool s, .slice a l c, .slice ka kn kc] 28) = w0 at *
 refine (word_n h0.pr h0.ok (wd 7) (by decide)).mono ?_
 rintro e w1 ⟨rfl, p1, k1⟩
 go_wp2
 go_end0
 exact ⟨rfl, by rw [hF.out]; exact p1, k0.out.trans k1⟩
set_option maxRecDepth 100000 in
set_option maxHeartbeats 3200000 in
theorem bare_8 {n b : Nat} {w : World} {x : TC} {t : Tr} {p : Ps} {last : Bool} (_ha : AhOk n) (_hbt : BtOk n) (hkk : x.k = 8) (h : Gv (n + 1) b w x t p) : Calls Tryz.prog 78 #[.pointer (some ⟨b, 0, none⟩), x.val, .bool last] w fun e w' => PtR b w (bareD (parF n) t last p) e w' := by
 have hk := h.key
 have hnb := h.pr.lt
 have hck := hkk
 rw [← hk] at hck
 obtain ⟨k, nm, na, nn, nc, s, a, l, c, ka, kn, kc⟩ := x
 dsimp only at hk hkk
 subst hkk
 have b0 := below_alloc w (.cells #[.int .i64 8, .string nm, .slice na nn nc, .bool s, .slice a l c, .slice ka kn kc] 28)
 have y0 : VB _ _ ⟨8, nm, na, nn, nc, s, a, l, c, ka, kn, kc⟩ := vb_new w ⟨8, nm, na, nn, nc, s, a, l, c, ka, kn, kc⟩
 have h0 := h.low b0
 have k0 := hide (KO.low (Nat.le_of_lt hnb) b0)
 have a0 := y0.c0
 have a1 := y0.c1
 have a2 := y0.c2
 have a3 := y0.c3
 have a4 := y0.c4
 have a5 := y0.c5
 have hne : w.heap.size ≠ b := by omega
 clear h hk
 replace b0 := hide b0
 dsimp only at *
 have hwo := h0.en.wo.cell (k := 8) (by decide)
 have hF : Hid (bareD (parF n) t last p = wrd (wd 8).data.toList p) := hide (by unfold bareD; rw [if_neg (by omega), if_neg (by omega), if_pos (by omega), hck]; rfl)
 go_enter Tryz.func78, Tryz.ntmps78
 go_wp2_with fail
 generalize w.alloc (.cells #[.int .i64 8, .string nm, .slice na nn nc, .bool s, .slice a l c, .slice ka kn kc] 28) = w0 at *
 refine (word_n h0.pr h0.ok (wd 8) (by decide)).mono ?_
 rintro e w1 ⟨rfl, p1, k1⟩
 go_wp2
 go_end0
 exact ⟨rfl, by rw [hF.out]; exact p1, k0.out.trans k1⟩
set_option maxRecDepth 100000 in
set_option maxHeartbeats 3200000 in
theorem bare_6 {n b : Nat} {w : World} {x : TC} {t : Tr} {p : Ps} {last : Bool} (ha : AhOk n) (_hbt : BtOk n) (hkk : x.k = 6) (h : Gv (n + 1) b w x t p) : Calls Tryz.prog 78 #[.pointer (some ⟨b, 0, none⟩), x.val, .bool last] w fun e w' => PtR b w (bareD (parF n) t last p) e w' := by
 have hk := h.key
 have hnb := h.pr.lt
 have hck := hkk
 rw [← hk] at hck
 obtain ⟨k, nm, na, nn, nc, s, a, l, c, ka, kn, kc⟩ := x
 dsimp only at hk hkk
 subst hkk
 have b0 := below_alloc w (.cells #[.int .i64 6, .string nm, .slice na nn nc, .bool s, .slice a l c, .slice ka kn kc] 28)
 have y0 : VB _ _ ⟨6, nm, na, nn, nc, s, a, l, c, ka, kn, kc⟩ := vb_new w ⟨6, nm, na, nn, nc, s, a, l, c, ka, kn, kc⟩
 have h0 := h.low b0
 have k0 := hide (KO.low (Nat.le_of_lt hnb) b0)
 have a0 := y0.c0
 have a1 := y0.c1
 have a2 := y0.c2
 have a3 := y0.c3
 have a4 := y0.c4
 have a5 := y0.c5
 have hne : w.heap.size ≠ b := by omega
 clear h hk
 replace b0 := hide b0
 dsimp only at *
 obtain ⟨hs, hr, hxl, hnm, hns⟩ := h0.num
 have hF : Hid (bareD (parF n) t last p = ahD (parF n) t last (numW s (lbO t).xs p)) := hide (by unfold bareD; rw [if_neg (by omega), if_neg (by omega), if_neg (by omega), if_pos (by omega), hs])
 go_enter Tryz.func78, Tryz.ntmps78
 go_wp2_with fail
 generalize w.alloc (.cells #[.int .i64 6, .string nm, .slice na nn nc, .bool s, .slice a l c, .slice ka kn kc] 28) = w0 at *
 refine (number_n h0.pr h0.ok h0.en.tab hr hxl h0.pr.lt).mono ?_
 rintro e w1 ⟨rfl, p1, k1⟩
 have y1 := k1.vb hne y0
 have h1 := h0.ko k1 p1 (num_ok _ _ h0.ok)
 have e0 := y1.c0
 have e1 := y1.c1
 have e2 := y1.c2
 have e3 := y1.c3
 have e4 := y1.c4
 have e5 := y1.c5
 have hah := hide (ha b w1 _ t last _ (by omega) h1)
 dsimp only at *
 clear a0 a1 a2 a3 a4 a5
 go_wp2_with fail
 refine hah.out.mono ?_
 rintro e w2 ⟨rfl, p2, k2⟩
 go_wp2
 go_end0
 exact ⟨rfl, by rw [hF.out]; exact p2, (k0.out.trans k1).trans k2⟩
set_option maxRecDepth 100000 in
set_option maxHeartbeats 3200000 in
theorem bare_15 {n b : Nat} {w : World} {x : TC} {t : Tr} {p : Ps} {last : Bool} (ha : AhOk n) (_hbt : BtOk n) (hkk : x.k = 15) (h : Gv (n + 1) b w x t p) : Calls Tryz.prog 78 #[.pointer (some ⟨b, 0, none⟩), x.val, .bool last] w fun e w' => PtR b w (bareD (parF n) t last p) e w' := by
 have hk := h.key
 have hnb := h.pr.lt
 have hck := hkk
 rw [← hk] at hck
 obtain ⟨k, nm, na, nn, nc, s, a, l, c, ka, kn, kc⟩ := x
 dsimp only at hk hkk
 subst hkk
 have b0 := below_alloc w (.cells #[.int .i64 15, .string nm, .slice na nn nc, .bool s, .slice a l c, .slice ka kn kc] 28)
 have y0 : VB _ _ ⟨15, nm, na, nn, nc, s, a, l, c, ka, kn, kc⟩ := vb_new w ⟨15, nm, na, nn, nc, s, a, l, c, ka, kn, kc⟩
 have h0 := h.low b0
 have k0 := hide (KO.low (Nat.le_of_lt hnb) b0)
 have a0 := y0.c0
 have a1 := y0.c1
 have a2 := y0.c2
 have a3 := y0.c3
 have a4 := y0.c4
 have a5 := y0.c5
 have hne : w.heap.size ≠ b := by omega
 clear h hk
 replace b0 := hide b0
 dsimp only at *
 obtain ⟨hs, hr, hxl, hnm, hns⟩ := h0.num
 have hF : Hid (bareD (parF n) t last p = ahD (parF n) t last (numW s (lbO t).xs p)) := hide (by unfold bareD; rw [if_neg (by omega), if_neg (by omega), if_neg (by omega), if_pos (by omega), hs])
 go_enter Tryz.func78, Tryz.ntmps78
 go_wp2_with fail
 generalize w.alloc (.cells #[.int .i64 15, .string nm, .slice na nn nc, .bool s, .slice a l c, .slice ka kn kc] 28) = w0 at *
 refine (number_n h0.pr h0.ok h0.en.tab hr hxl h0.pr.lt).mono ?_
 rintro e w1 ⟨rfl, p1, k1⟩
 have y1 := k1.vb hne y0
 have h1 := h0.ko k1 p1 (num_ok _ _ h0.ok)
 have e0 := y1.c0
 have e1 := y1.c1
 have e2 := y1.c2
 have e3 := y1.c3
 have e4 := y1.c4
 have e5 := y1.c5
 have hah := hide (ha b w1 _ t last _ (by omega) h1)
 dsimp only at *
 clear a0 a1 a2 a3 a4 a5
 go_wp2_with fail
 refine hah.out.mono ?_
 rintro e w2 ⟨rfl, p2, k2⟩
 go_wp2
 go_end0
 exact ⟨rfl, by rw [hF.out]; exact p2, (k0.out.trans k1).trans k2⟩
set_option maxRecDepth 100000 in
set_option maxHeartbeats 3200000 in
theorem bare_3 {n b : Nat} {w : World} {x : TC} {t : Tr} {p : Ps} {last : Bool} (ha : AhOk n) (_hbt : BtOk n) (hkk : x.k = 3) (h : Gv (n + 1) b w x t p) : Calls Tryz.prog 78 #[.pointer (some ⟨b, 0, none⟩), x.val, .bool last] w fun e w' => PtR b w (bareD (parF n) t last p) e w' := by
 have hk := h.key
 have hnb := h.pr.lt
 have hck := hkk
 rw [← hk] at hck
 obtain ⟨k, nm, na, nn, nc, s, a, l, c, ka, kn, kc⟩ := x
 dsimp only at hk hkk
 subst hkk
 have b0 := below_alloc w (.cells #[.int .i64 3, .string nm, .slice na nn nc, .bool s, .slice a l c, .slice ka kn kc] 28)
 have y0 : VB _ _ ⟨3, nm, na, nn, nc, s, a, l, c, ka, kn, kc⟩ := vb_new w ⟨3, nm, na, nn, nc, s, a, l, c, ka, kn, kc⟩
 have h0 := h.low b0
 have k0 := hide (KO.low (Nat.le_of_lt hnb) b0)
 have a0 := y0.c0
 have a1 := y0.c1
 have a2 := y0.c2
 have a3 := y0.c3
 have a4 := y0.c4
 have a5 := y0.c5
 have hne : w.heap.size ≠ b := by omega
 clear h hk
 replace b0 := hide b0
 dsimp only at *
 have hF : Hid (bareD (parF n) t last p = ahD (parF n) t last p) := hide (by unfold bareD; rw [if_neg (by omega), if_neg (by omega), if_neg (by omega), if_neg (by omega), if_pos (by omega)])
 go_enter Tryz.func78, Tryz.ntmps78
 go_wp2_with fail
 generalize w.alloc (.cells #[.int .i64 3, .string nm, .slice na nn nc, .bool s, .slice a l c, .slice ka kn kc] 28) = w0 at *
 refine (ha b w0 _ t last _ (by omega) h0).mono ?_
 rintro e w1 ⟨rfl, p1, k1⟩
 go_wp2
 go_end0
 exact ⟨rfl, by rw [hF.out]; exact p1, k0.out.trans k1⟩
set_option maxRecDepth 100000 in
set_option maxHeartbeats 3200000 in
theorem bare_16 {n b : Nat} {w : World} {x : TC} {t : Tr} {p : Ps} {last : Bool} (ha : AhOk n) (_hbt : BtOk n) (hkk : x.k = 16) (h : Gv (n + 1) b w x t p) : Calls Tryz.prog 78 #[.pointer (some ⟨b, 0, none⟩), x.val, .bool last] w fun e w' => PtR b w (bareD (parF n) t last p) e w' := by
 have hk := h.key
 have hnb := h.pr.lt
 have hck := hkk
 rw [← hk] at hck
 obtain ⟨k, nm, na, nn, nc, s, a, l, c, ka, kn, kc⟩ := x
 dsimp only at hk hkk
 subst hkk
 have b0 := below_alloc w (.cells #[.int .i64 16, .string nm, .slice na nn nc, .bool s, .slice a l c, .slice ka kn kc] 28)
 have y0 : VB _ _ ⟨16, nm, na, nn, nc, s, a, l, c, ka, kn, kc⟩ := vb_new w ⟨16, nm, na, nn, nc, s, a, l, c, ka, kn, kc⟩
 have h0 := h.low b0
 have k0 := hide (KO.low (Nat.le_of_lt hnb) b0)
 have a0 := y0.c0
 have a1 := y0.c1
 have a2 := y0.c2
 have a3 := y0.c3
 have a4 := y0.c4
 have a5 := y0.c5
 have hne : w.heap.size ≠ b := by omega
 clear h hk
 replace b0 := hide b0
 dsimp only at *
 have hF : Hid (bareD (parF n) t last p = ahD (parF n) t last p) := hide (by unfold bareD; rw [if_neg (by omega), if_neg (by omega), if_neg (by omega), if_neg (by omega), if_pos (by omega)])
 go_enter Tryz.func78, Tryz.ntmps78
 go_wp2_with fail
 generalize w.alloc (.cells #[.int .i64 16, .string nm, .slice na nn nc, .bool s, .slice a l c, .slice ka kn kc] 28) = w0 at *
 refine (ha b w0 _ t last _ (by omega) h0).mono ?_
 rintro e w1 ⟨rfl, p1, k1⟩
 go_wp2
 go_end0
 exact ⟨rfl, by rw [hF.out]; exact p1, k0.out.trans k1⟩
set_option maxRecDepth 100000 in
set_option maxHeartbeats 3200000 in
theorem bare_21 {n b : Nat} {w : World} {x : TC} {t : Tr} {p : Ps} {last : Bool} (ha : AhOk n) (_hbt : BtOk n) (hkk : x.k = 21) (h : Gv (n + 1) b w x t p) : Calls Tryz.prog 78 #[.pointer (some ⟨b, 0, none⟩), x.val, .bool last] w fun e w' => PtR b w (bareD (parF n) t last p) e w' := by
 have hk := h.key
 have hnb := h.pr.lt
 have hck := hkk
 rw [← hk] at hck
 obtain ⟨k, nm, na, nn, nc, s, a, l, c, ka, kn, kc⟩ := x
 dsimp only at hk hkk
 subst hkk
 have b0 := below_alloc w (.cells #[.int .i64 21, .string nm, .slice na nn nc, .bool s, .slice a l c, .slice ka kn kc] 28)
 have y0 : VB _ _ ⟨21, nm, na, nn, nc, s, a, l, c, ka, kn, kc⟩ := vb_new w ⟨21, nm, na, nn, nc, s, a, l, c, ka, kn, kc⟩
 have h0 := h.low b0
 have k0 := hide (KO.low (Nat.le_of_lt hnb) b0)
 have a0 := y0.c0
 have a1 := y0.c1
 have a2 := y0.c2
 have a3 := y0.c3
 have a4 := y0.c4
 have a5 := y0.c5
 have hne : w.heap.size ≠ b := by omega
 clear h hk
 replace b0 := hide b0
 dsimp only at *
 have hF : Hid (bareD (parF n) t last p = ahD (parF n) t last p) := hide (by unfold bareD; rw [if_neg (by omega), if_neg (by omega), if_neg (by omega), if_neg (by omega), if_pos (by omega)])
 go_enter Tryz.func78, Tryz.ntmps78
 go_wp2_with fail
 generalize w.alloc (.cells #[.int .i64 21, .string nm, .slice na nn nc, .bool s, .slice a l c, .slice ka kn kc] 28) = w0 at *
 refine (ha b w0 _ t last _ (by omega) h0).mono ?_
 rintro e w1 ⟨rfl, p1, k1⟩
 go_wp2
 go_end0
 exact ⟨rfl, by rw [hF.out]; exact p1, k0.out.trans k1⟩
set_option maxRecDepth 100000 in
set_option maxHeartbeats 3200000 in
theorem bare_22 {n b : Nat} {w : World} {x : TC} {t : Tr} {p : Ps} {last : Bool} (ha : AhOk n) (_hbt : BtOk n) (hkk : x.k = 22) (h : Gv (n + 1) b w x t p) : Calls Tryz.prog 78 #[.pointer (some ⟨b, 0, none⟩), x.val, .bool last] w fun e w' => PtR b w (bareD (parF n) t last p) e w' := by
 have hk := h.key
 have hnb := h.pr.lt
 have hck := hkk
 rw [← hk] at hck
 obtain ⟨k, nm, na, nn, nc, s, a, l, c, ka, kn, kc⟩ := x
 dsimp only at hk hkk
 subst hkk
 have b0 := below_alloc w (.cells #[.int .i64 22, .string nm, .slice na nn nc, .bool s, .slice a l c, .slice ka kn kc] 28)
 have y0 : VB _ _ ⟨22, nm, na, nn, nc, s, a, l, c, ka, kn, kc⟩ := vb_new w ⟨22, nm, na, nn, nc, s, a, l, c, ka, kn, kc⟩
 have h0 := h.low b0
 have k0 := hide (KO.low (Nat.le_of_lt hnb) b0)
 have a0 := y0.c0
 have a1 := y0.c1
 have a2 := y0.c2
 have a3 := y0.c3
 have a4 := y0.c4
 have a5 := y0.c5
 have hne : w.heap.size ≠ b := by omega
 clear h hk
 replace b0 := hide b0
 dsimp only at *
 have hF : Hid (bareD (parF n) t last p = ahD (parF n) t last p) := hide (by unfold bareD; rw [if_neg (by omega), if_neg (by omega), if_neg (by omega), if_neg (by omega), if_pos (by omega)])
 go_enter Tryz.func78, Tryz.ntmps78
 go_wp2_with fail
 generalize w.alloc (.cells #[.int .i64 22, .string nm, .slice na nn nc, .bool s, .slice a l c, .slice ka kn kc] 28) = w0 at *
 refine (ha b w0 _ t last _ (by omega) h0).mono ?_
 rintro e w1 ⟨rfl, p1, k1⟩
 go_wp2
 go_end0
 exact ⟨rfl, by rw [hF.out]; exact p1, k0.out.trans k1⟩
set_option maxRecDepth 100000 in
set_option maxHeartbeats 3200000 in
theorem bare_else {n b : Nat} {w : World} {x : TC} {t : Tr} {p : Ps} {last : Bool} (_ha : AhOk n) (hbt : BtOk n) (hkk : x.k = 4 ∨ x.k = 5 ∨ (9 ≤ x.k ∧ x.k ≤ 14) ∨ (17 ≤ x.k ∧ x.k ≤ 20)) (h : Gv (n + 1) b w x t p) : Calls Tryz.prog 78 #[.pointer (some ⟨b, 0, none⟩), x.val, .bool last] w fun e w' => PtR b w (bareD (parF n) t last p) e w' := by
 have hk := h.key
 have hnb := h.pr.lt
 have hck := hkk
 rw [← hk] at hck
 obtain ⟨k, nm, na, nn, nc, s, a, l, c, ka, kn, kc⟩ := x
 dsimp only at hk hkk
 have b0 := below_alloc w (.cells #[.int .i64 k, .string nm, .slice na nn nc, .bool s, .slice a l c, .slice ka kn kc] 28)
 have y0 : VB _ _ ⟨k, nm, na, nn, nc, s, a, l, c, ka, kn, kc⟩ := vb_new w ⟨k, nm, na, nn, nc, s, a, l, c, ka, kn, kc⟩
 have h0 := h.low b0
 have k0 := hide (KO.low (Nat.le_of_lt hnb) b0)
 have a0 := y0.c0
 have a1 := y0.c1
 have a2 := y0.c2
 have a3 := y0.c3
 have a4 := y0.c4
 have a5 := y0.c5
 have hne : w.heap.size ≠ b := by omega
 clear h hk
 replace b0 := hide b0
 dsimp only at *
 have hF : Hid (bareD (parF n) t last p = btD (parF n) t last (ksO t).length p) := hide (by unfold bareD; rw [if_neg (by omega), if_neg (by omega), if_neg (by omega), if_neg (by omega), if_neg (by omega)])
 have n1 : (k == 1) = false := by rw [beq_eq_false_iff_ne]; omega
 have n2 : (k == 2) = false := by rw [beq_eq_false_iff_ne]; omega
 have n7 : (k == 7) = false := by rw [beq_eq_false_iff_ne]; omega
 have n8 : (k == 8) = false := by rw [beq_eq_false_iff_ne]; omega
 have n6 : (k == 6) = false := by rw [beq_eq_false_iff_ne]; omega
 have n15 : (k == 15) = false := by rw [beq_eq_false_iff_ne]; omega
 have n3 : (k == 3) = false := by rw [beq_eq_false_iff_ne]; omega
 have n16 : (k == 16) = false := by rw [beq_eq_false_iff_ne]; omega
 have n21 : (k == 21) = false := by rw [beq_eq_false_iff_ne]; omega
 have n22 : (k == 22) = false := by rw [beq_eq_false_iff_ne]; omega
 go_enter Tryz.func78, Tryz.ntmps78
 go_wp2_with fail
 generalize w.alloc (.cells #[.int .i64 k, .string nm, .slice na nn nc, .bool s, .slice a l c, .slice ka kn kc] 28) = w0 at *
 refine (hbt b w0 _ t last _ hck h0).mono ?_
 rintro e w1 ⟨rfl, p1, k1⟩
 go_wp2
 go_end0
 exact ⟨rfl, by rw [hF.out]; exact p1, k0.out.trans k1⟩
theorem bare_step (n : Nat) (ha : AhOk n) (hbt : BtOk n) : FnOk 78 n (bareD (parF n)) fun _ => True := by
 intro b w x t last p _ h
 have hk := h.key
 have hr := h.st.kind
 rw [hk] at hr
 by_cases e1 : x.k = 1
 ·exact bare_1 ha hbt e1 h
 by_cases e2 : x.k = 2
 ·exact bare_2 ha hbt e2 h
 by_cases e7 : x.k = 7
 ·exact bare_7 ha hbt e7 h
 by_cases e8 : x.k = 8
 ·exact bare_8 ha hbt e8 h
 by_cases e6 : x.k = 6
 ·exact bare_6 ha hbt e6 h
 by_cases e15 : x.k = 15
 ·exact bare_15 ha hbt e15 h
 by_cases e3 : x.k = 3
 ·exact bare_3 ha hbt e3 h
 by_cases e16 : x.k = 16
 ·exact bare_16 ha hbt e16 h
 by_cases e21 : x.k = 21
 ·exact bare_21 ha hbt e21 h
 by_cases e22 : x.k = 22
 ·exact bare_22 ha hbt e22 h
 exact bare_else ha hbt (by omega) h
end Sx
end Go.Proofs.YtgpaajolcpgeaaaGreatDoor

namespace Go.Proofs.YtgpaajolcpgeaaaGreatDoor
open Go.RowKit
namespace Sx

/-- a kid, as it lies in memory -/
theorem Gv.kid {n b : Nat} {w : World} {x : TC} {t : Tr} {p : Ps} (h : Gv (n + 1) b w x t p) : (ksO t).length = x.kn ∧ ∀ i, (hi : i < (ksO t).length) → ∃ kb off y, x.ka = some ⟨kb, off, none⟩ ∧ kb < b ∧ (∀ j, j < 6 → w.cell? ⟨kb, off + i * 6 + j, none⟩ = y.enc[j]?) ∧ kb < w.heap.size ∧ Gv n b w y ((ksO t)[i]) p := by
 obtain ⟨l, ks, rfl⟩ := rt_of h.rt
 obtain ⟨h1, h2⟩ := rt_nd h.rt
 refine ⟨h2.1, fun i hi => ?_⟩
 have hi2 : i < ks.length := hi
 obtain ⟨kb, off, e, hb, hu, hc⟩ := h2.2.resolve_left (by have := h2.1; omega)
 obtain ⟨y, hy, ry⟩ := hc i hi2
 have hm : ks[i] ∈ ksO (nd l ks) := List.getElem_mem hi2
 exact ⟨kb, off, y, e, hb, hy, hu.lt, h.en, h.pr, h.ok, ry, h.st.kid hm, fun hd => h.dp (dp_nd.2 ⟨_, hm, hd⟩)⟩
theorem Gv.names {n b : Nat} {w : World} {x : TC} {t : Tr} {p : Ps} (h : Gv n b w x t p) : NmL (fun k => k < b) w x.na x.nn (lbO t).nms ∧ x.nn ≤ 1073741824 ∧ ∀ s ∈ (lbO t).nms, s.size ≤ 1073741824 := by
 have hB := h.st.self.2.1
 obtain ⟨l, ks, rfl⟩ := rt_of h.rt
 have hr := (rt_nd h.rt).1
 refine ⟨hr.nms, ?_, hB.ns⟩
 rw [← hr.nms.1]
 exact hB.nn
theorem Gv.one {n b : Nat} {w : World} {x : TC} {t : Tr} {p : Ps} (h : Gv n b w x t p) (hk : (lbO t).k = 3 ∨ (lbO t).k = 6 ∨ (lbO t).k = 15 ∨ (lbO t).k = 16 ∨ (lbO t).k = 21 ∨ (lbO t).k = 22) : 0 < (ksO t).length := by
 have h1 := h.st.self.1
 have hf : (shp (lbO t).k).few = 1 := by
  rcases hk with e | e | e | e | e | e <;> rw [e] <;> rfl
 unfold stB hkB at h1
 simp only [Bool.and_eq_true, decide_eq_true_eq, hf] at h1
 omega
theorem headD_of {l : List Tr} (h : 0 < l.length) (t : Tr) : l.headD t = l[0] := by
 cases l with
 | nil => simp at h
 | cons u us => rfl
theorem names_more {l : List ByteArray} {i : Nat} (h : i < l.length) (p : Ps) : nmsW (l.take (i + 1)) p = wrd (l[i]).data.toList (nmsW (l.take i) p) := by
 rw [take_one (List.getElem?_eq_getElem h)]
 unfold nmsW
 rw [List.foldl_append]
 rfl
set_option maxRecDepth 100000 in
set_option maxHeartbeats 6400000 in
theorem ahead_step (n : Nat) (hpart : PartOk n) : AhOk n := by
 intro b w x t last p hck h
 have hk := h.key
 have hkr := h.st.kind
 have hnb := h.pr.lt
 have hone := hide (h.one hck)
 rw [hk] at hkr
 obtain ⟨k, nm, na, nn, nc, s, a, l, c, ka, kn, kc⟩ := x
 obtain ⟨kd, hkd⟩ : ∃ m : Nat, k = m := ⟨k.toNat, by dsimp only at hkr; omega⟩
 subst hkd
 dsimp only at hk hkr
 have hkl : kd < 23 := by omega
 have b0 := below_alloc w (.cells #[.int .i64 (kd : Int), .string nm, .slice na nn nc, .bool s, .slice a l c, .slice ka kn kc] 28)
 have y0 : VB _ _ ⟨(kd : Int), nm, na, nn, nc, s, a, l, c, ka, kn, kc⟩ := vb_new w ⟨(kd : Int), nm, na, nn, nc, s, a, l, c, ka, kn, kc⟩
 have h0 := h.low b0
 have k0 := hide (KO.low (Nat.le_of_lt hnb) b0)
 have e0 := y0.c0
 have hne : w.heap.size ≠ b := by omega
 have hF : Hid (ahD (parF n) t last p = parF n ((ksO t).headD t) (pIn (kd : Int) true) last ((if qnt (kd : Int) then wrd dot.data.toList else id) (nmsW (lbO t).nms (gl ((kd : Int) == 3) (wrd (wd kd).data.toList p))))) := hide (by unfold ahD; rw [hk]; rfl)
 have hwo := h0.en.wo.cell hkl
 have hkx : (kd : Int) < 23 := by omega
 clear h hck hk
 replace b0 := hide b0
 dsimp only at *
 go_enter Tryz.func117, Tryz.ntmps117
 go_wp2_with fail
 generalize w.alloc (.cells #[.int .i64 (kd : Int), .string nm, .slice na nn nc, .bool s, .slice a l c, .slice ka kn kc] 28) = w0 at *
 generalize w.heap.size = bt at *
 clear b0
 refine (word_n h0.pr h0.ok (wd kd) (by
  have : kd ≤ 22 := by omega
  revert this
  generalize kd = q
  intro hq
  exact (show ∀ q, q ≤ 22 → (wd q).size ≤ 68719476736 by decide) q hq)).mono ?_
 rintro e w1 ⟨rfl, p1, k1⟩
 have y1 := k1.vb hne y0
 have h1 := h0.ko k1 p1 (wrd_ok _ h0.ok)
 have ka1 := hide (k0.out.trans k1)
 clear h0 y0 k1 k0 p1 e0 hwo
 obtain ⟨q1, v1, hq1, hv1⟩ := h1.pr
 have c2 := hv1.c2
 have f2 := hv1.f 2
 have p2 : PrS b (gl ((kd : Int) == 3) (wrd (wd kd).data.toList p)) (w1.setCell ⟨b, 2, none⟩ (.bool ((kd : Int) == 3))) := ⟨q1, v1, hq1, hv1.glue _⟩
 have k2 : KO b w1 (w1.setCell ⟨b, 2, none⟩ (.bool ((kd : Int) == 3))) := KO.set 2 _
 have h2 := h1.ko k2 p2 (gl_ok _ h1.ok)
 have e0 := y1.c0
 have y2 := k2.vb hne y1
 have e2 := y2.c2
 have kb := hide (ka1.out.trans k2)
 clear h1 hv1 ka1 k2 p2
 dsimp only at e0 e2
 generalize hgb : ((kd : Int) == 3) = gb at *
 go_wp2_with fail
 generalize w1.setCell ⟨b, 2, none⟩ (.bool gb) = w2 at *
 generalize gl gb (wrd (wd kd).data.toList p) = p2 at *
 clear e0 e2 c2 f2 hgb y1
 obtain ⟨hnms, hnn, hns⟩ := h2.names
 dsimp only at hnms hnn
 generalize hNN : (lbO t).nms = NN at *
 clear hNN
 go_loopw [23] (fun i wr => ∃ j : Nat, j ≤ nn ∧ i = .int .i64 j ∧ Hid (KO b w2 wr) ∧ Hid (PrS b (nmsW (NN.take j) p2) wr)) (fun i _ => nn - (intOf i).toNat)
 case atStart => exact ⟨0, Nat.zero_le _, rfl, hide (KO.refl _ _), hide h2.pr⟩
 case round =>
  obtain ⟨j, hj, rfl, kw, pw⟩ := hrel
  by_cases hjn : j < nn
  ·have hlt : decide ((j : Int) < (nn : Int)) = true := by
    rw [decide_eq_true_eq]
    omega
   have hnw := hnms.kf kw.out.kf
   obtain ⟨bn, off, e, hF2, hbl, hc⟩ := hnw.2.resolve_left (by omega)
   subst e
   have htl : j < NN.length := by rw [hnw.1]; exact hjn
   have ct := hc j htl
   have hsz := hns _ (List.getElem_mem htl)
   have hmore := hide (names_more htl p2)
   generalize NN[j] = nmj at ct hsz hmore
   have hi : (j : Int) < (nn : Int) := by omega
   have hwr : IntKind.i64.wrap ((j : Int) + 1) = ((j + 1 : Nat) : Int) := by
    rw [IntKind.wrap_i64]
    omega
   have hwd := hide (word_n pw.out (nms_ok _ h2.ok) nmj (by omega))
   clear hc hnw
   go_wp2_with fail
   refine hwd.out.mono ?_
   rintro e w3 ⟨rfl, p3, k3⟩
   rw [← hmore.out] at p3
   replace p3 := hide p3
   have k4 := hide (kw.out.trans k3)
   clear hwd ct k3 hmore
   go_wp2
   go_roundw
   case measure => simp [intOf]; omega
   case rel => exact ⟨j + 1, by omega, by first | rfl | trivial, k4, p3⟩
  ·obtain rfl : j = nn := by omega
   have hlt : decide ((j : Int) < (j : Int)) = false := by simp
   have y3 := kw.out.vb hne y2
   have h3 := h2.ko kw.out pw.out (nms_ok _ h2.ok)
   have k3 := hide (kb.out.trans kw.out)
   rw [show NN.take j = NN by rw [← hnms.1]; exact List.take_length] at h3
   generalize nmsW NN p2 = p3 at *
   clear h2 y2 kb kw pw hnms hns
   have e0 := y3.c0
   dsimp only at e0
   have hqn := hide (isQuantifier_n (kd : Int) wr)
   go_wp2_with fail
   refine hqn.out.mono ?_
   rintro e w4 ⟨rfl, rfl⟩
   clear hqn
   cases hqv : qnt (kd : Int) with
   | true =>
    rw [hqv, if_pos rfl] at hF
    have hwd := hide (word_n h3.pr h3.ok ⟨#[46]⟩ (by decide))
    go_wp2_with fail
    refine hwd.out.mono ?_
    rintro e w4 ⟨rfl, p4, k4'⟩
    have h4 := h3.ko k4' p4 (wrd_ok _ h3.ok)
    have y4 := k4'.vb hne y3
    have k4 := hide (k3.out.trans k4')
    clear h3 y3 k3 k4' p4 e0 hwd
    change Hid (_ = parF n _ _ _ (wrd (⟨#[46]⟩ : ByteArray).data.toList p3)) at hF
    generalize wrd (⟨#[46]⟩ : ByteArray).data.toList p3 = p4 at *
    go_wp2_with fail
    have kdr := grow_drew (Below.refl w4.heap.size w4)
    have h5 := h4.low kdr
    have y5 := y4.below kdr
    have k5 := hide (k4.out.trans (KO.low (Nat.le_of_lt h4.pr.lt) kdr))
    clear kdr h4 y4 k4
    obtain ⟨hkl2, hkid⟩ := h5.kid
    obtain ⟨kb, off, y, eka, hkb, hcy, hkw, gy⟩ := hkid 0 hone.out
    have hhd := headD_of hone.out t
    rw [hhd] at hF
    have hkn0 : 0 < kn := by have := hone.out; dsimp only at hkl2; omega
    dsimp only at eka
    subst eka
    have hSS : Hid (∀ w', KO b w4.drew w' → w'.cell? ⟨bt, 0, none⟩ = some (.int .i64 (kd : Int)) ∧ w'.cell? ⟨bt, 5, none⟩ = some (.slice (some ⟨kb, off, none⟩) kn kc) ∧ w'.cell? ⟨kb, off, none⟩ = some (.int .i64 y.k) ∧ w'.cell? ⟨kb, off + 1, none⟩ = some (.string y.nm) ∧ w'.cell? ⟨kb, off + 2, none⟩ = some (.slice y.na y.nn y.nc) ∧ w'.cell? ⟨kb, off + 3, none⟩ = some (.bool y.s) ∧ w'.cell? ⟨kb, off + 4, none⟩ = some (.slice y.a y.l y.c) ∧ w'.cell? ⟨kb, off + 5, none⟩ = some (.slice y.ka y.kn y.kc)) := hide fun w' k => by
     have hc : ∀ i, i < 6 → w'.cell? ⟨kb, off + i, none⟩ = y.enc[i]? := fun i hi => (World.cell?_of_block (a := ⟨kb, off + i, none⟩) (k.bel.block kb hkb)).trans (by have := hcy i hi; rwa [Nat.zero_mul, Nat.add_zero] at this)
     exact ⟨(k.vb hne y5).c0, (k.vb hne y5).c5, hc 0 (by decide), hc 1 (by decide), hc 2 (by decide), hc 3 (by decide), hc 4 (by decide), hc 5 (by decide)⟩
    refine wp_region_held_drew (S := (fun w' => w'.cell? ⟨bt, 0, none⟩ = some (.int .i64 (kd : Int)) ∧ w'.cell? ⟨bt, 5, none⟩ = some (.slice (some ⟨kb, off, none⟩) kn kc) ∧ w'.cell? ⟨kb, off, none⟩ = some (.int .i64 y.k) ∧ w'.cell? ⟨kb, off + 1, none⟩ = some (.string y.nm) ∧ w'.cell? ⟨kb, off + 2, none⟩ = some (.slice y.na y.nn y.nc) ∧ w'.cell? ⟨kb, off + 3, none⟩ = some (.bool y.s) ∧ w'.cell? ⟨kb, off + 4, none⟩ = some (.slice y.a y.l y.c) ∧ w'.cell? ⟨kb, off + 5, none⟩ = some (.slice y.ka y.kn y.kc))) (by kernel_rfl) (hSS.out _ (KO.refl _ _)) (fun hHeld => ?_)
    show wpAnyH _ _ _ _ _ 10 _ _ _
    have hpi : Hid (Calls Tryz.prog 148 #[.int .i64 (kd : Int), .int .i64 0] w4.drew fun en w' => en = .returned (.int .i64 (pIn (kd : Int) true)) ∧ w4.drew = w') := hide (placeIn_n hkr 0 w4.drew)
    have hpt := hide (hpart b w4.drew y _ (pIn (kd : Int) true) last _ gy)
    generalize w4.drew = wd4 at *
    clear h5 y5 hcy hkid gy
    refine wpAnyH_take (i := 0) (oi := ⟨some 36, _, _, _, _, _⟩) (v := ?_) rfl (by kernel_rfl) (by kernel_rfl) (by kernel_rfl) (fun _ _ _ h => by first | exact h | cases h.1) (Or.inl ⟨by rfl, ?_⟩) (by assumption) ?_
    rotate_left
    ·intro wq hSw; (try dsimp only at hSw); go_simp; (try with_reducible rfl)
    (try simp only [Act.put, List.setIfInBounds_toArray, List.set_cons_zero, List.set_cons_succ])
    refine wpAnyH_take (i := 1) (oi := ⟨some 37, _, _, _, _, _⟩) (v := ?_) rfl (by kernel_rfl) (by kernel_rfl) (by kernel_rfl) (fun _ _ _ h => by first | exact h | cases h.1) (Or.inl ⟨by rfl, ?_⟩) (by assumption) ?_
    rotate_left
    ·intro wq hSw; (try dsimp only at hSw); go_simp; (try with_reducible rfl)
    (try simp only [Act.put, List.setIfInBounds_toArray, List.set_cons_zero, List.set_cons_succ])
    refine wpAnyH_take (i := 2) (oi := ⟨some 38, _, _, _, _, _⟩) (v := ?_) rfl (by kernel_rfl) (by kernel_rfl) (by kernel_rfl) (fun _ _ _ h => by first | exact h | cases h.1) (Or.inl ⟨by rfl, ?_⟩) (by assumption) ?_
    rotate_left
    ·intro wq hSw; (try dsimp only at hSw); go_simp; (try with_reducible rfl)
    (try simp only [Act.put, List.setIfInBounds_toArray, List.set_cons_zero, List.set_cons_succ])
    refine wpAnyH_take (i := 3) (oi := ⟨some 39, _, _, _, _, _⟩) (v := ?_) rfl (by kernel_rfl) (by kernel_rfl) (by kernel_rfl) (fun _ _ _ h => by first | exact h | cases h.1) (Or.inl ⟨by rfl, ?_⟩) (by assumption) ?_
    rotate_left
    ·intro wq hSw; (try dsimp only at hSw); go_simp; (try with_reducible rfl)
    (try simp only [Act.put, List.setIfInBounds_toArray, List.set_cons_zero, List.set_cons_succ])
    refine wpAnyH_take (i := 4) (oi := ⟨some 40, _, _, _, _, _⟩) (v := ?_) rfl (by kernel_rfl) (by kernel_rfl) (by kernel_rfl) (fun _ _ _ h => by first | exact h | cases h.1) (Or.inl ⟨by rfl, ?_⟩) (by assumption) ?_
    rotate_left
    ·intro wq hSw; (try dsimp only at hSw); go_simp; (try with_reducible rfl)
    (try simp only [Act.put, List.setIfInBounds_toArray, List.set_cons_zero, List.set_cons_succ])
    refine wpAnyH_take (i := 5) (oi := ⟨some 41, _, _, _, _, _⟩) (v := ?_) rfl (by kernel_rfl) (by kernel_rfl) (by kernel_rfl) (fun _ _ _ h => by first | exact h | cases h.1) (Or.inl ⟨by rfl, ?_⟩) (by assumption) ?_
    rotate_left
    ·intro wq hSw; (try dsimp only at hSw); go_simp; (try with_reducible rfl)
    (try simp only [Act.put, List.setIfInBounds_toArray, List.set_cons_zero, List.set_cons_succ])
    refine wpAnyH_take (i := 6) (oi := ⟨some 42, _, _, _, _, _⟩) (v := ?_) rfl (by kernel_rfl) (by kernel_rfl) (by kernel_rfl) (fun _ _ _ h => by first | exact h | cases h.1) (Or.inl ⟨by rfl, ?_⟩) (by assumption) ?_
    rotate_left
    ·intro wq hSw; (try dsimp only at hSw); go_simp; (try with_reducible rfl)
    (try simp only [Act.put, List.setIfInBounds_toArray, List.set_cons_zero, List.set_cons_succ])
    refine wpAnyH_take (i := 8) (oi := ⟨some 44, _, _, _, _, _⟩) (v := ?_) rfl (by kernel_rfl) (by kernel_rfl) (by kernel_rfl) (fun _ _ _ h => by first | exact h | cases h.1) (Or.inl ⟨by rfl, ?_⟩) (by assumption) ?_
    rotate_left
    ·intro wq hSw; (try dsimp only at hSw); go_simp; (try with_reducible rfl)
    (try simp only [Act.put, List.setIfInBounds_toArray, List.set_cons_zero, List.set_cons_succ])
    refine wpAnyH_ready (rs := [7]) (by kernel_rfl) (by simp) ?_
    refine AllReadyH.cons (o := ⟨some 43, _, _, _, _, _⟩) rfl (fun K hK => ?_) AllReadyH.nil
    go_simp
    refine Calls.mono hpi.out ?_
    rintro en w5 ⟨rfl, rfl⟩
    (try go_wp2_with fail)
    refine hK.out _ _ ?_ ?_
    ·(try dsimp only); exact hSS.out _ (KO.refl _ _)
    clear hK K hHeld; intro hHeld
    (try simp only [Act.put, List.setIfInBounds_toArray, List.set_cons_zero, List.set_cons_succ])
    refine wpAnyH_ready (rs := [9]) (by kernel_rfl) (by simp) ?_
    refine AllReadyH.cons (o := ⟨some 45, _, _, _, _, _⟩) rfl (fun K hK => ?_) AllReadyH.nil
    go_simp
    refine Calls.mono hpt.out ?_
    rintro en w6 ⟨rfl, p6, k6⟩
    (try go_wp2_with fail)
    refine hK.out _ _ ?_ ?_
    ·(try dsimp only); exact hSS.out _ k6
    clear hK K hHeld; intro hHeld
    (try simp only [Act.put, List.setIfInBounds_toArray, List.set_cons_zero, List.set_cons_succ])
    refine wpAnyH_done (by kernel_rfl) ?_ _
    go_wp2
    go_end0
    exact ⟨rfl, by rw [hF.out]; exact p6, k5.out.trans k6⟩
   | false =>
    rw [hqv, if_neg (by simp)] at hF
    change Hid (_ = parF n _ _ _ p3) at hF
    have h4 := h3
    have y4 := y3
    have k4 := k3
    clear h3 y3 k3 e0
    generalize wr = w4 at *
    go_wp2_with fail
    have kdr := grow_drew (Below.refl w4.heap.size w4)
    have h5 := h4.low kdr
    have y5 := y4.below kdr
    have k5 := hide (k4.out.trans (KO.low (Nat.le_of_lt h4.pr.lt) kdr))
    clear kdr h4 y4 k4
    obtain ⟨hkl2, hkid⟩ := h5.kid
    obtain ⟨kb, off, y, eka, hkb, hcy, hkw, gy⟩ := hkid 0 hone.out
    have hhd := headD_of hone.out t
    rw [hhd] at hF
    have hkn0 : 0 < kn := by have := hone.out; dsimp only at hkl2; omega
    dsimp only at eka
    subst eka
    have hSS : Hid (∀ w', KO b w4.drew w' → w'.cell? ⟨bt, 0, none⟩ = some (.int .i64 (kd : Int)) ∧ w'.cell? ⟨bt, 5, none⟩ = some (.slice (some ⟨kb, off, none⟩) kn kc) ∧ w'.cell? ⟨kb, off, none⟩ = some (.int .i64 y.k) ∧ w'.cell? ⟨kb, off + 1, none⟩ = some (.string y.nm) ∧ w'.cell? ⟨kb, off + 2, none⟩ = some (.slice y.na y.nn y.nc) ∧ w'.cell? ⟨kb, off + 3, none⟩ = some (.bool y.s) ∧ w'.cell? ⟨kb, off + 4, none⟩ = some (.slice y.a y.l y.c) ∧ w'.cell? ⟨kb, off + 5, none⟩ = some (.slice y.ka y.kn y.kc)) := hide fun w' k => by
     have hc : ∀ i, i < 6 → w'.cell? ⟨kb, off + i, none⟩ = y.enc[i]? := fun i hi => (World.cell?_of_block (a := ⟨kb, off + i, none⟩) (k.bel.block kb hkb)).trans (by have := hcy i hi; rwa [Nat.zero_mul, Nat.add_zero] at this)
     exact ⟨(k.vb hne y5).c0, (k.vb hne y5).c5, hc 0 (by decide), hc 1 (by decide), hc 2 (by decide), hc 3 (by decide), hc 4 (by decide), hc 5 (by decide)⟩
    refine wp_region_held_drew (S := (fun w' => w'.cell? ⟨bt, 0, none⟩ = some (.int .i64 (kd : Int)) ∧ w'.cell? ⟨bt, 5, none⟩ = some (.slice (some ⟨kb, off, none⟩) kn kc) ∧ w'.cell? ⟨kb, off, none⟩ = some (.int .i64 y.k) ∧ w'.cell? ⟨kb, off + 1, none⟩ = some (.string y.nm) ∧ w'.cell? ⟨kb, off + 2, none⟩ = some (.slice y.na y.nn y.nc) ∧ w'.cell? ⟨kb, off + 3, none⟩ = some (.bool y.s) ∧ w'.cell? ⟨kb, off + 4, none⟩ = some (.slice y.a y.l y.c) ∧ w'.cell? ⟨kb, off + 5, none⟩ = some (.slice y.ka y.kn y.kc))) (by kernel_rfl) (hSS.out _ (KO.refl _ _)) (fun hHeld => ?_)
    show wpAnyH _ _ _ _ _ 10 _ _ _
    have hpi : Hid (Calls Tryz.prog 148 #[.int .i64 (kd : Int), .int .i64 0] w4.drew fun en w' => en = .returned (.int .i64 (pIn (kd : Int) true)) ∧ w4.drew = w') := hide (placeIn_n hkr 0 w4.drew)
    have hpt := hide (hpart b w4.drew y _ (pIn (kd : Int) true) last _ gy)
    generalize w4.drew = wd4 at *
    clear h5 y5 hcy hkid gy
    refine wpAnyH_take (i := 0) (oi := ⟨some 36, _, _, _, _, _⟩) (v := ?_) rfl (by kernel_rfl) (by kernel_rfl) (by kernel_rfl) (fun _ _ _ h => by first | exact h | cases h.1) (Or.inl ⟨by rfl, ?_⟩) (by assumption) ?_
    rotate_left
    ·intro wq hSw; (try dsimp only at hSw); go_simp; (try with_reducible rfl)
    (try simp only [Act.put, List.setIfInBounds_toArray, List.set_cons_zero, List.set_cons_succ])
    refine wpAnyH_take (i := 1) (oi := ⟨some 37, _, _, _, _, _⟩) (v := ?_) rfl (by kernel_rfl) (by kernel_rfl) (by kernel_rfl) (fun _ _ _ h => by first | exact h | cases h.1) (Or.inl ⟨by rfl, ?_⟩) (by assumption) ?_
    rotate_left
    ·intro wq hSw; (try dsimp only at hSw); go_simp; (try with_reducible rfl)
    (try simp only [Act.put, List.setIfInBounds_toArray, List.set_cons_zero, List.set_cons_succ])
    refine wpAnyH_take (i := 2) (oi := ⟨some 38, _, _, _, _, _⟩) (v := ?_) rfl (by kernel_rfl) (by kernel_rfl) (by kernel_rfl) (fun _ _ _ h => by first | exact h | cases h.1) (Or.inl ⟨by rfl, ?_⟩) (by assumption) ?_
    rotate_left
    ·intro wq hSw; (try dsimp only at hSw); go_simp; (try with_reducible rfl)
    (try simp only [Act.put, List.setIfInBounds_toArray, List.set_cons_zero, List.set_cons_succ])
    refine wpAnyH_take (i := 3) (oi := ⟨some 39, _, _, _, _, _⟩) (v := ?_) rfl (by kernel_rfl) (by kernel_rfl) (by kernel_rfl) (fun _ _ _ h => by first | exact h | cases h.1) (Or.inl ⟨by rfl, ?_⟩) (by assumption) ?_
    rotate_left
    ·intro wq hSw; (try dsimp only at hSw); go_simp; (try with_reducible rfl)
    (try simp only [Act.put, List.setIfInBounds_toArray, List.set_cons_zero, List.set_cons_succ])
    refine wpAnyH_take (i := 4) (oi := ⟨some 40, _, _, _, _, _⟩) (v := ?_) rfl (by kernel_rfl) (by kernel_rfl) (by kernel_rfl) (fun _ _ _ h => by first | exact h | cases h.1) (Or.inl ⟨by rfl, ?_⟩) (by assumption) ?_
    rotate_left
    ·intro wq hSw; (try dsimp only at hSw); go_simp; (try with_reducible rfl)
    (try simp only [Act.put, List.setIfInBounds_toArray, List.set_cons_zero, List.set_cons_succ])
    refine wpAnyH_take (i := 5) (oi := ⟨some 41, _, _, _, _, _⟩) (v := ?_) rfl (by kernel_rfl) (by kernel_rfl) (by kernel_rfl) (fun _ _ _ h => by first | exact h | cases h.1) (Or.inl ⟨by rfl, ?_⟩) (by assumption) ?_
    rotate_left
    ·intro wq hSw; (try dsimp only at hSw); go_simp; (try with_reducible rfl)
    (try simp only [Act.put, List.setIfInBounds_toArray, List.set_cons_zero, List.set_cons_succ])
    refine wpAnyH_take (i := 6) (oi := ⟨some 42, _, _, _, _, _⟩) (v := ?_) rfl (by kernel_rfl) (by kernel_rfl) (by kernel_rfl) (fun _ _ _ h => by first | exact h | cases h.1) (Or.inl ⟨by rfl, ?_⟩) (by assumption) ?_
    rotate_left
    ·intro wq hSw; (try dsimp only at hSw); go_simp; (try with_reducible rfl)
    (try simp only [Act.put, List.setIfInBounds_toArray, List.set_cons_zero, List.set_cons_succ])
    refine wpAnyH_take (i := 8) (oi := ⟨some 44, _, _, _, _, _⟩) (v := ?_) rfl (by kernel_rfl) (by kernel_rfl) (by kernel_rfl) (fun _ _ _ h => by first | exact h | cases h.1) (Or.inl ⟨by rfl, ?_⟩) (by assumption) ?_
    rotate_left
    ·intro wq hSw; (try dsimp only at hSw); go_simp; (try with_reducible rfl)
    (try simp only [Act.put, List.setIfInBounds_toArray, List.set_cons_zero, List.set_cons_succ])
    refine wpAnyH_ready (rs := [7]) (by kernel_rfl) (by simp) ?_
    refine AllReadyH.cons (o := ⟨some 43, _, _, _, _, _⟩) rfl (fun K hK => ?_) AllReadyH.nil
    go_simp
    refine Calls.mono hpi.out ?_
    rintro en w5 ⟨rfl, rfl⟩
    (try go_wp2_with fail)
    refine hK.out _ _ ?_ ?_
    ·(try dsimp only); exact hSS.out _ (KO.refl _ _)
    clear hK K hHeld; intro hHeld
    (try simp only [Act.put, List.setIfInBounds_toArray, List.set_cons_zero, List.set_cons_succ])
    refine wpAnyH_ready (rs := [9]) (by kernel_rfl) (by simp) ?_
    refine AllReadyH.cons (o := ⟨some 45, _, _, _, _, _⟩) rfl (fun K hK => ?_) AllReadyH.nil
    go_simp
    refine Calls.mono hpt.out ?_
    rintro en w6 ⟨rfl, p6, k6⟩
    (try go_wp2_with fail)
    refine hK.out _ _ ?_ ?_
    ·(try dsimp only); exact hSS.out _ k6
    clear hK K hHeld; intro hHeld
    (try simp only [Act.put, List.setIfInBounds_toArray, List.set_cons_zero, List.set_cons_succ])
    refine wpAnyH_done (by kernel_rfl) ?_ _
    go_wp2
    go_end0
    exact ⟨rfl, by rw [hF.out]; exact p6, k5.out.trans k6⟩
end Sx
end Go.Proofs.YtgpaajolcpgeaaaGreatDoor

namespace Go.Proofs.YtgpaajolcpgeaaaGreatDoor
open Go.RowKit
namespace Sx

theorem bt_succ (pt : Pt) (t : Tr) (last : Bool) (i : Nat) (p : Ps) : btD pt t last (i + 1) p = pt ((ksO t).getD i t) (pIn (lbO t).k (i == 0)) (last && (i + 1 == (ksO t).length)) ((if 0 < i then wrd (wd (lbO t).k.toNat).data.toList else id) (btD pt t last i p)) := rfl
set_option maxRecDepth 100000 in
set_option maxHeartbeats 6400000 in
theorem between_step (n : Nat) (hpart : PartOk n) : BtOk n := by
 intro b w x t last p hck h
 have hk := h.key
 have hkr := h.st.kind
 have hnb := h.pr.lt
 have hkm := h.st.self.2.2
 rw [hk] at hkr
 obtain ⟨k, nm, na, nn, nc, s, a, l, c, ka, kn, kc⟩ := x
 obtain ⟨kd, hkd⟩ : ∃ m : Nat, k = m := ⟨k.toNat, by dsimp only at hkr; omega⟩
 subst hkd
 dsimp only at hk hkr
 have hkl : kd < 23 := by omega
 have b0 := below_alloc w (.cells #[.int .i64 (kd : Int), .string nm, .slice na nn nc, .bool s, .slice a l c, .slice ka kn kc] 28)
 have y0 : VB _ _ ⟨(kd : Int), nm, na, nn, nc, s, a, l, c, ka, kn, kc⟩ := vb_new w ⟨(kd : Int), nm, na, nn, nc, s, a, l, c, ka, kn, kc⟩
 have h0 := h.low b0
 have k0 := hide (KO.low (Nat.le_of_lt hnb) b0)
 have hne : w.heap.size ≠ b := by omega
 have e5 := y0.c5
 have hkx : (kd : Int) < 23 := by omega
 have hwsz : (wd kd).size ≤ 68719476736 := by
  have : kd ≤ 22 := by omega
  revert this
  generalize kd = q
  intro hq
  exact (show ∀ q, q ≤ 22 → (wd q).size ≤ 68719476736 by decide) q hq
 replace hwsz := hide hwsz
 have hln := h0.kid.1
 clear h hck
 replace b0 := hide b0
 dsimp only at *
 go_enter Tryz.func118, Tryz.ntmps118
 go_wp2_with fail
 generalize w.alloc (.cells #[.int .i64 (kd : Int), .string nm, .slice na nn nc, .bool s, .slice a l c, .slice ka kn kc] 28) = w0 at *
 generalize w.heap.size = bt at *
 clear b0 e5
 have hbl := h0.pr.lt
 go_loopw [11] (fun i wr => ∃ j : Nat, j ≤ kn ∧ i = .int .i64 j ∧ Hid (KO b w0 wr) ∧ Hid (PrS b (btD (parF n) t last j p) wr)) (fun i _ => kn - (intOf i).toNat)
 case atStart => exact ⟨0, Nat.zero_le _, rfl, hide (KO.refl _ _), hide h0.pr⟩
 case round =>
  obtain ⟨j, hj, rfl, kw, pw⟩ := hrel
  by_cases hjn : j < kn
  ·have hlt : decide ((j : Int) < (kn : Int)) = true := by
    rw [decide_eq_true_eq]
    omega
   have hi : (j : Int) < (kn : Int) := by omega
   have hwr : IntKind.i64.wrap ((j : Int) + 1) = ((j + 1 : Nat) : Int) := by
    rw [IntKind.wrap_i64]
    omega
   have hws : IntKind.i64.wrap ((kn : Int) - 1) = (kn : Int) - 1 := by
    rw [IntKind.wrap_i64]
    omega
   have hle : Hid (((j : Int) == (kn : Int) - 1) = (j + 1 == kn)) := hide (by
    rw [Bool.eq_iff_iff, beq_iff_eq, beq_iff_eq]
    omega)
   have h1 := h0.ko kw.out pw.out (bt_ok (par_ok n) t last j h0.ok)
   have y1 := kw.out.vb hne y0
   have hjl : j < (ksO t).length := by omega
   obtain ⟨kb, off, y, eka, hkb, hcy, hkw, g1⟩ := h1.kid.2 j hjl
   dsimp only at eka
   subst eka
   have hmore : Hid (btD (parF n) t last (j + 1) p = parF n ((ksO t)[j]) (pIn (kd : Int) (j == 0)) (last && (j + 1 == kn)) ((if 0 < j then wrd (wd kd).data.toList else id) (btD (parF n) t last j p))) := hide (by
    rw [bt_succ, hk, ← hln, List.getD_eq_getElem?_getD, List.getElem?_eq_getElem hjl]
    rfl)
   generalize (ksO t)[j] = u at g1 hmore
   have e0 : wr.cell? ⟨kb, off + j * 6, none⟩ = some (.int .i64 y.k) := hcy 0 (by decide)
   have e1 : wr.cell? ⟨kb, off + j * 6 + 1, none⟩ = some (.string y.nm) := hcy 1 (by decide)
   have e2 : wr.cell? ⟨kb, off + j * 6 + 2, none⟩ = some (.slice y.na y.nn y.nc) := hcy 2 (by decide)
   have e3 : wr.cell? ⟨kb, off + j * 6 + 3, none⟩ = some (.bool y.s) := hcy 3 (by decide)
   have e4 : wr.cell? ⟨kb, off + j * 6 + 4, none⟩ = some (.slice y.a y.l y.c) := hcy 4 (by decide)
   have e5 : wr.cell? ⟨kb, off + j * 6 + 5, none⟩ = some (.slice y.ka y.kn y.kc) := hcy 5 (by decide)
   have b3 := below_alloc wr (.cells #[.int .i64 y.k, .string y.nm, .slice y.na y.nn y.nc, .bool y.s, .slice y.a y.l y.c, .slice y.ka y.kn y.kc] 28)
   have z3 := vb_new wr y
   have hnu : wr.heap.size ≠ b := by have := h1.pr.lt; omega
   have y3 := y1.below b3
   have g3 := g1.low b3
   have k3 := hide (kw.out.trans (KO.low (Nat.le_of_lt h1.pr.lt) b3))
   have hwo := g3.en.wo.cell hkl
   have a0 := y3.c0
   dsimp only at a0
   clear hcy h1 y1 g1 kw pw b3 hkw
   iterate 37 (first | go_skip | go_guarded | go_step | go_upon | go_simp)
   clear e0 e1 e2 e3 e4 e5
   generalize wr.alloc (.cells #[.int .i64 y.k, .string y.nm, .slice y.na y.nn y.nc, .bool y.s, .slice y.a y.l y.c, .slice y.ka y.kn y.kc] 28) = w3 at *
   generalize wr.heap.size = bu at *
   by_cases hj0 : 0 < j
   ·have hgt : decide ((0 : Int) < (j : Int)) = true := by
     rw [decide_eq_true_eq]
     omega
    rw [if_pos hj0] at hmore
    have hwd := hide (word_n g3.pr g3.ok (wd kd) hwsz.out)
    go_wp2_with fail
    refine hwd.out.mono ?_
    rintro e w4 ⟨rfl, p4, k4'⟩
    have g4 := g3.ko k4' p4 (wrd_ok _ g3.ok)
    have y4 := k4'.vb hne y3
    have z4 := k4'.vb hnu z3
    have k4 := hide (k3.out.trans k4')
    clear g3 y3 z3 k3 k4' p4 hwd a0 hwo
    cases last with
    | true =>
     rw [Bool.true_and] at hmore
     go_wp2_with fail
     have kdr := grow_drew (Below.refl w4.heap.size w4)
     have g5 := g4.low kdr
     have y5 := y4.below kdr
     have z5 := z4.below kdr
     have k5 := hide (k4.out.trans (KO.low (Nat.le_of_lt g4.pr.lt) kdr))
     clear kdr g4 y4 z4 k4
     have hSS : Hid (∀ w', KO b w4.drew w' → w'.cell? ⟨bt, 0, none⟩ = some (.int .i64 (kd : Int)) ∧ w'.cell? ⟨bt, 5, none⟩ = some (.slice (some ⟨kb, off, none⟩) kn kc) ∧ w'.cell? ⟨bu, 0, none⟩ = some (.int .i64 y.k) ∧ w'.cell? ⟨bu, 1, none⟩ = some (.string y.nm) ∧ w'.cell? ⟨bu, 2, none⟩ = some (.slice y.na y.nn y.nc) ∧ w'.cell? ⟨bu, 3, none⟩ = some (.bool y.s) ∧ w'.cell? ⟨bu, 4, none⟩ = some (.slice y.a y.l y.c) ∧ w'.cell? ⟨bu, 5, none⟩ = some (.slice y.ka y.kn y.kc)) := hide fun w' k => by
      have y6 := k.vb hne y5
      have z6 := k.vb hnu z5
      exact ⟨y6.c0, y6.c5, z6.c0, z6.c1, z6.c2, z6.c3, z6.c4, z6.c5⟩
     refine wp_region_held_drew (S := (fun w' => w'.cell? ⟨bt, 0, none⟩ = some (.int .i64 (kd : Int)) ∧ w'.cell? ⟨bt, 5, none⟩ = some (.slice (some ⟨kb, off, none⟩) kn kc) ∧ w'.cell? ⟨bu, 0, none⟩ = some (.int .i64 y.k) ∧ w'.cell? ⟨bu, 1, none⟩ = some (.string y.nm) ∧ w'.cell? ⟨bu, 2, none⟩ = some (.slice y.na y.nn y.nc) ∧ w'.cell? ⟨bu, 3, none⟩ = some (.bool y.s) ∧ w'.cell? ⟨bu, 4, none⟩ = some (.slice y.a y.l y.c) ∧ w'.cell? ⟨bu, 5, none⟩ = some (.slice y.ka y.kn y.kc))) (by kernel_rfl) (hSS.out _ (KO.refl _ _)) (fun hHeld => ?_)
     show wpAnyH _ _ _ _ _ 16 _ _ _
     have hpi := hide (placeIn_n hkr j w4.drew)
     have hpt := hide (hpart b w4.drew y u (pIn (kd : Int) (j == 0)) ((j : Int) == (kn : Int) - 1) _ g5)
     generalize w4.drew = wd4 at *
     clear g5 y5 z5
     refine wpAnyH_take (i := 0) (oi := ⟨some 24, _, _, _, _, _⟩) (v := ?_) rfl (by kernel_rfl) (by kernel_rfl) (by kernel_rfl) (fun _ _ _ h => by first | exact h | cases h.1) (Or.inl ⟨by rfl, ?_⟩) (by assumption) ?_
     rotate_left
     ·intro wq hSw; (try dsimp only at hSw); go_simp; (try with_reducible rfl)
     (try simp only [Act.put, List.setIfInBounds_toArray, List.set_cons_zero, List.set_cons_succ])
     refine wpAnyH_take (i := 1) (oi := ⟨some 25, _, _, _, _, _⟩) (v := ?_) rfl (by kernel_rfl) (by kernel_rfl) (by kernel_rfl) (fun _ _ _ h => by first | exact h | cases h.1) (Or.inl ⟨by rfl, ?_⟩) (by assumption) ?_
     rotate_left
     ·intro wq hSw; (try dsimp only at hSw); go_simp; (try with_reducible rfl)
     (try simp only [Act.put, List.setIfInBounds_toArray, List.set_cons_zero, List.set_cons_succ])
     refine wpAnyH_take (i := 2) (oi := ⟨some 26, _, _, _, _, _⟩) (v := ?_) rfl (by kernel_rfl) (by kernel_rfl) (by kernel_rfl) (fun _ _ _ h => by first | exact h | cases h.1) (Or.inl ⟨by rfl, ?_⟩) (by assumption) ?_
     rotate_left
     ·intro wq hSw; (try dsimp only at hSw); go_simp; (try with_reducible rfl)
     (try simp only [Act.put, List.setIfInBounds_toArray, List.set_cons_zero, List.set_cons_succ])
     refine wpAnyH_take (i := 3) (oi := ⟨some 27, _, _, _, _, _⟩) (v := ?_) rfl (by kernel_rfl) (by kernel_rfl) (by kernel_rfl) (fun _ _ _ h => by first | exact h | cases h.1) (Or.inl ⟨by rfl, ?_⟩) (by assumption) ?_
     rotate_left
     ·intro wq hSw; (try dsimp only at hSw); go_simp; (try with_reducible rfl)
     (try simp only [Act.put, List.setIfInBounds_toArray, List.set_cons_zero, List.set_cons_succ])
     refine wpAnyH_take (i := 4) (oi := ⟨some 28, _, _, _, _, _⟩) (v := ?_) rfl (by kernel_rfl) (by kernel_rfl) (by kernel_rfl) (fun _ _ _ h => by first | exact h | cases h.1) (Or.inl ⟨by rfl, ?_⟩) (by assumption) ?_
     rotate_left
     ·intro wq hSw; (try dsimp only at hSw); go_simp; (try with_reducible rfl)
     (try simp only [Act.put, List.setIfInBounds_toArray, List.set_cons_zero, List.set_cons_succ])
     refine wpAnyH_take (i := 6) (oi := ⟨some 30, _, _, _, _, _⟩) (v := ?_) rfl (by kernel_rfl) (by kernel_rfl) (by kernel_rfl) (fun _ _ _ h => by first | exact h | cases h.1) (Or.inl ⟨by rfl, ?_⟩) (by assumption) ?_
     rotate_left
     ·intro wq hSw; (try dsimp only at hSw); go_simp; (try with_reducible rfl)
     (try simp only [Act.put, List.setIfInBounds_toArray, List.set_cons_zero, List.set_cons_succ])
     refine wpAnyH_ready (rs := [5]) (by kernel_rfl) (by simp) ?_
     refine AllReadyH.cons (o := ⟨some 29, _, _, _, _, _⟩) rfl (fun K hK => ?_) AllReadyH.nil
     go_simp
     refine Calls.mono hpi.out ?_
     rintro en w5 ⟨rfl, rfl⟩
     (try go_wp2_with fail)
     refine hK.out _ _ ?_ ?_
     ·(try dsimp only); exact hSS.out _ (KO.refl _ _)
     clear hK K hHeld; intro hHeld
     (try simp only [Act.put, List.setIfInBounds_toArray, List.set_cons_zero, List.set_cons_succ])
     refine wpAnyH_take (i := 7) (oi := ⟨some 31, _, _, _, _, _⟩) (v := ?_) rfl (by kernel_rfl) (by kernel_rfl) (by kernel_rfl) (fun _ _ _ h => by first | exact h | cases h.1) (Or.inl ⟨by rfl, ?_⟩) (by assumption) ?_
     rotate_left
     ·intro wq hSw; (try dsimp only at hSw); go_simp; (try with_reducible rfl)
     (try simp only [Act.put, List.setIfInBounds_toArray, List.set_cons_zero, List.set_cons_succ])
     refine wpAnyH_take (i := 8) (oi := ⟨some 32, _, _, _, _, _⟩) (v := ?_) rfl (by kernel_rfl) (by kernel_rfl) (by kernel_rfl) (fun _ _ _ h => by first | exact h | cases h.1) (Or.inl ⟨by rfl, ?_⟩) (by assumption) ?_
     rotate_left
     ·intro wq hSw; (try dsimp only at hSw); go_simp; (try with_reducible rfl)
     (try simp only [Act.put, List.setIfInBounds_toArray, List.set_cons_zero, List.set_cons_succ])
     refine wpAnyH_take (i := 9) (oi := ⟨some 33, _, _, _, _, _⟩) (v := ?_) rfl (by kernel_rfl) (by kernel_rfl) (by kernel_rfl) (fun _ _ _ h => by first | exact h | cases h.1) (Or.inl ⟨by rfl, ?_⟩) (by assumption) ?_
     rotate_left
     ·intro wq hSw; (try dsimp only at hSw); go_simp; (try with_reducible rfl)
     (try simp only [Act.put, List.setIfInBounds_toArray, List.set_cons_zero, List.set_cons_succ])
     refine wpAnyH_take (i := 10) (oi := ⟨some 34, _, _, _, _, _⟩) (v := ?_) rfl (by kernel_rfl) (by kernel_rfl) (by kernel_rfl) (fun _ _ _ h => by first | exact h | cases h.1) (Or.inl ⟨by rfl, ?_⟩) (by assumption) ?_
     rotate_left
     ·intro wq hSw; (try dsimp only at hSw); go_simp; (try with_reducible rfl)
     (try simp only [Act.put, List.setIfInBounds_toArray, List.set_cons_zero, List.set_cons_succ])
     refine wpAnyH_take (i := 11) (oi := ⟨some 35, _, _, _, _, _⟩) (v := ?_) rfl (by kernel_rfl) (by kernel_rfl) (by kernel_rfl) (fun _ _ _ h => by first | exact h | cases h.1) (Or.inl ⟨by rfl, ?_⟩) (by assumption) ?_
     rotate_left
     ·intro wq hSw; (try dsimp only at hSw); go_simp; (try with_reducible rfl)
     (try simp only [Act.put, List.setIfInBounds_toArray, List.set_cons_zero, List.set_cons_succ])
     refine wpAnyH_take (i := 12) (oi := ⟨some 36, _, _, _, _, _⟩) (v := ?_) rfl (by kernel_rfl) (by kernel_rfl) (by kernel_rfl) (fun _ _ _ h => by first | exact h | cases h.1) (Or.inl ⟨by rfl, ?_⟩) (by assumption) ?_
     rotate_left
     ·intro wq hSw; (try dsimp only at hSw); go_simp; (try with_reducible rfl)
     (try simp only [Act.put, List.setIfInBounds_toArray, List.set_cons_zero, List.set_cons_succ])
     refine wpAnyH_take (i := 13) (oi := ⟨some 37, _, _, _, _, _⟩) (v := ?_) rfl (by kernel_rfl) (by kernel_rfl) (by kernel_rfl) (fun _ _ _ h => by first | exact h | cases h.1) (Or.inl ⟨by rfl, ?_⟩) (by assumption) ?_
     rotate_left
     ·intro wq hSw; (try dsimp only at hSw); go_simp; (try with_reducible rfl)
     (try simp only [Act.put, List.setIfInBounds_toArray, List.set_cons_zero, List.set_cons_succ])
     refine wpAnyH_take (i := 14) (oi := ⟨some 38, _, _, _, _, _⟩) (v := ?_) rfl (by kernel_rfl) (by kernel_rfl) (by kernel_rfl) (fun _ _ _ h => by first | exact h | cases h.1) (Or.inl ⟨by rfl, ?_⟩) (by assumption) ?_
     rotate_left
     ·intro wq hSw; (try dsimp only at hSw); go_simp; (try with_reducible rfl)
     (try simp only [Act.put, List.setIfInBounds_toArray, List.set_cons_zero, List.set_cons_succ])
     refine wpAnyH_ready (rs := [15]) (by kernel_rfl) (by simp) ?_
     refine AllReadyH.cons (o := ⟨some 39, _, _, _, _, _⟩) rfl (fun K hK => ?_) AllReadyH.nil
     go_simp
     refine Calls.mono hpt.out ?_
     rintro en w6 ⟨rfl, p6, k6⟩
     (try go_wp2_with fail)
     refine hK.out _ _ ?_ ?_
     ·(try dsimp only); exact hSS.out _ k6
     clear hK K hHeld; intro hHeld
     (try simp only [Act.put, List.setIfInBounds_toArray, List.set_cons_zero, List.set_cons_succ])
     refine wpAnyH_done (by kernel_rfl) ?_ _
     rw [hle.out] at p6
     replace p6 := hide p6
     have k7 := hide (k5.out.trans k6)
     clear hSS hpi hpt k5 k6
     rw [← hmore.out] at p6
     go_wp2
     go_roundw
     case measure => simp [intOf]; omega
     case rel => exact ⟨j + 1, by omega, by first | rfl | trivial, k7, p6⟩
    | false =>
     rw [Bool.false_and] at hmore
     go_wp2_with fail
     have kdr := grow_drew (Below.refl w4.heap.size w4)
     have g5 := g4.low kdr
     have y5 := y4.below kdr
     have z5 := z4.below kdr
     have k5 := hide (k4.out.trans (KO.low (Nat.le_of_lt g4.pr.lt) kdr))
     clear kdr g4 y4 z4 k4
     have hSS : Hid (∀ w', KO b w4.drew w' → w'.cell? ⟨bt, 0, none⟩ = some (.int .i64 (kd : Int)) ∧ w'.cell? ⟨bt, 5, none⟩ = some (.slice (some ⟨kb, off, none⟩) kn kc) ∧ w'.cell? ⟨bu, 0, none⟩ = some (.int .i64 y.k) ∧ w'.cell? ⟨bu, 1, none⟩ = some (.string y.nm) ∧ w'.cell? ⟨bu, 2, none⟩ = some (.slice y.na y.nn y.nc) ∧ w'.cell? ⟨bu, 3, none⟩ = some (.bool y.s) ∧ w'.cell? ⟨bu, 4, none⟩ = some (.slice y.a y.l y.c) ∧ w'.cell? ⟨bu, 5, none⟩ = some (.slice y.ka y.kn y.kc)) := hide fun w' k => by
      have y6 := k.vb hne y5
      have z6 := k.vb hnu z5
      exact ⟨y6.c0, y6.c5, z6.c0, z6.c1, z6.c2, z6.c3, z6.c4, z6.c5⟩
     refine wp_region_held_drew (S := (fun w' => w'.cell? ⟨bt, 0, none⟩ = some (.int .i64 (kd : Int)) ∧ w'.cell? ⟨bt, 5, none⟩ = some (.slice (some ⟨kb, off, none⟩) kn kc) ∧ w'.cell? ⟨bu, 0, none⟩ = some (.int .i64 y.k) ∧ w'.cell? ⟨bu, 1, none⟩ = some (.string y.nm) ∧ w'.cell? ⟨bu, 2, none⟩ = some (.slice y.na y.nn y.nc) ∧ w'.cell? ⟨bu, 3, none⟩ = some (.bool y.s) ∧ w'.cell? ⟨bu, 4, none⟩ = some (.slice y.a y.l y.c) ∧ w'.cell? ⟨bu, 5, none⟩ = some (.slice y.ka y.kn y.kc))) (by kernel_rfl) (hSS.out _ (KO.refl _ _)) (fun hHeld => ?_)
     show wpAnyH _ _ _ _ _ 16 _ _ _
     have hpi := hide (placeIn_n hkr j w4.drew)
     have hpt := hide (hpart b w4.drew y u (pIn (kd : Int) (j == 0)) false _ g5)
     generalize w4.drew = wd4 at *
     clear g5 y5 z5
     refine wpAnyH_take (i := 0) (oi := ⟨some 24, _, _, _, _, _⟩) (v := ?_) rfl (by kernel_rfl) (by kernel_rfl) (by kernel_rfl) (fun _ _ _ h => by first | exact h | cases h.1) (Or.inl ⟨by rfl, ?_⟩) (by assumption) ?_
     rotate_left
     ·intro wq hSw; (try dsimp only at hSw); go_simp; (try with_reducible rfl)
     (try simp only [Act.put, List.setIfInBounds_toArray, List.set_cons_zero, List.set_cons_succ])
     refine wpAnyH_take (i := 1) (oi := ⟨some 25, _, _, _, _, _⟩) (v := ?_) rfl (by kernel_rfl) (by kernel_rfl) (by kernel_rfl) (fun _ _ _ h => by first | exact h | cases h.1) (Or.inl ⟨by rfl, ?_⟩) (by assumption) ?_
     rotate_left
     ·intro wq hSw; (try dsimp only at hSw); go_simp; (try with_reducible rfl)
     (try simp only [Act.put, List.setIfInBounds_toArray, List.set_cons_zero, List.set_cons_succ])
     refine wpAnyH_take (i := 2) (oi := ⟨some 26, _, _, _, _, _⟩) (v := ?_) rfl (by kernel_rfl) (by kernel_rfl) (by kernel_rfl) (fun _ _ _ h => by first | exact h | cases h.1) (Or.inl ⟨by rfl, ?_⟩) (by assumption) ?_
     rotate_left
     ·intro wq hSw; (try dsimp only at hSw); go_simp; (try with_reducible rfl)
     (try simp only [Act.put, List.setIfInBounds_toArray, List.set_cons_zero, List.set_cons_succ])
     refine wpAnyH_take (i := 3) (oi := ⟨some 27, _, _, _, _, _⟩) (v := ?_) rfl (by kernel_rfl) (by kernel_rfl) (by kernel_rfl) (fun _ _ _ h => by first | exact h | cases h.1) (Or.inl ⟨by rfl, ?_⟩) (by assumption) ?_
     rotate_left
     ·intro wq hSw; (try dsimp only at hSw); go_simp; (try with_reducible rfl)
     (try simp only [Act.put, List.setIfInBounds_toArray, List.set_cons_zero, List.set_cons_succ])
     refine wpAnyH_take (i := 4) (oi := ⟨some 28, _, _, _, _, _⟩) (v := ?_) rfl (by kernel_rfl) (by kernel_rfl) (by kernel_rfl) (fun _ _ _ h => by first | exact h | cases h.1) (Or.inl ⟨by rfl, ?_⟩) (by assumption) ?_
     rotate_left
     ·intro wq hSw; (try dsimp only at hSw); go_simp; (try with_reducible rfl)
     (try simp only [Act.put, List.setIfInBounds_toArray, List.set_cons_zero, List.set_cons_succ])
     refine wpAnyH_take (i := 6) (oi := ⟨some 30, _, _, _, _, _⟩) (v := ?_) rfl (by kernel_rfl) (by kernel_rfl) (by kernel_rfl) (fun _ _ _ h => by first | exact h | cases h.1) (Or.inl ⟨by rfl, ?_⟩) (by assumption) ?_
     rotate_left
     ·intro wq hSw; (try dsimp only at hSw); go_simp; (try with_reducible rfl)
     (try simp only [Act.put, List.setIfInBounds_toArray, List.set_cons_zero, List.set_cons_succ])
     refine wpAnyH_ready (rs := [5]) (by kernel_rfl) (by simp) ?_
     refine AllReadyH.cons (o := ⟨some 29, _, _, _, _, _⟩) rfl (fun K hK => ?_) AllReadyH.nil
     go_simp
     refine Calls.mono hpi.out ?_
     rintro en w5 ⟨rfl, rfl⟩
     (try go_wp2_with fail)
     refine hK.out _ _ ?_ ?_
     ·(try dsimp only); exact hSS.out _ (KO.refl _ _)
     clear hK K hHeld; intro hHeld
     (try simp only [Act.put, List.setIfInBounds_toArray, List.set_cons_zero, List.set_cons_succ])
     refine wpAnyH_take (i := 7) (oi := ⟨some 31, _, _, _, _, _⟩) (v := ?_) rfl (by kernel_rfl) (by kernel_rfl) (by kernel_rfl) (fun _ _ _ h => by first | exact h | cases h.1) (Or.inl ⟨by rfl, ?_⟩) (by assumption) ?_
     rotate_left
     ·intro wq hSw; (try dsimp only at hSw); go_simp; (try with_reducible rfl)
     (try simp only [Act.put, List.setIfInBounds_toArray, List.set_cons_zero, List.set_cons_succ])
     refine wpAnyH_take (i := 8) (oi := ⟨some 32, _, _, _, _, _⟩) (v := undef) rfl (by kernel_rfl) (by kernel_rfl) (by kernel_rfl) (fun _ _ _ h => by first | exact h | cases h.1) (Or.inr ⟨by rfl, rfl⟩) (by assumption) ?_
     (try simp only [Act.put, List.setIfInBounds_toArray, List.set_cons_zero, List.set_cons_succ])
     refine wpAnyH_take (i := 9) (oi := ⟨some 33, _, _, _, _, _⟩) (v := undef) rfl (by kernel_rfl) (by kernel_rfl) (by kernel_rfl) (fun _ _ _ h => by first | exact h | cases h.1) (Or.inr ⟨by rfl, rfl⟩) (by assumption) ?_
     (try simp only [Act.put, List.setIfInBounds_toArray, List.set_cons_zero, List.set_cons_succ])
     refine wpAnyH_take (i := 10) (oi := ⟨some 34, _, _, _, _, _⟩) (v := undef) rfl (by kernel_rfl) (by kernel_rfl) (by kernel_rfl) (fun _ _ _ h => by first | exact h | cases h.1) (Or.inr ⟨by rfl, rfl⟩) (by assumption) ?_
     (try simp only [Act.put, List.setIfInBounds_toArray, List.set_cons_zero, List.set_cons_succ])
     refine wpAnyH_take (i := 11) (oi := ⟨some 35, _, _, _, _, _⟩) (v := undef) rfl (by kernel_rfl) (by kernel_rfl) (by kernel_rfl) (fun _ _ _ h => by first | exact h | cases h.1) (Or.inr ⟨by rfl, rfl⟩) (by assumption) ?_
     (try simp only [Act.put, List.setIfInBounds_toArray, List.set_cons_zero, List.set_cons_succ])
     refine wpAnyH_take (i := 12) (oi := ⟨some 36, _, _, _, _, _⟩) (v := undef) rfl (by kernel_rfl) (by kernel_rfl) (by kernel_rfl) (fun _ _ _ h => by first | exact h | cases h.1) (Or.inr ⟨by rfl, rfl⟩) (by assumption) ?_
     (try simp only [Act.put, List.setIfInBounds_toArray, List.set_cons_zero, List.set_cons_succ])
     refine wpAnyH_take (i := 13) (oi := ⟨some 37, _, _, _, _, _⟩) (v := undef) rfl (by kernel_rfl) (by kernel_rfl) (by kernel_rfl) (fun _ _ _ h => by first | exact h | cases h.1) (Or.inr ⟨by rfl, rfl⟩) (by assumption) ?_
     (try simp only [Act.put, List.setIfInBounds_toArray, List.set_cons_zero, List.set_cons_succ])
     refine wpAnyH_take (i := 14) (oi := ⟨some 38, _, _, _, _, _⟩) (v := ?_) rfl (by kernel_rfl) (by kernel_rfl) (by kernel_rfl) (fun _ _ _ h => by first | exact h | cases h.1) (Or.inl ⟨by rfl, ?_⟩) (by assumption) ?_
     rotate_left
     ·intro wq hSw; (try dsimp only at hSw); go_simp; (try with_reducible rfl)
     (try simp only [Act.put, List.setIfInBounds_toArray, List.set_cons_zero, List.set_cons_succ])
     refine wpAnyH_ready (rs := [15]) (by kernel_rfl) (by simp) ?_
     refine AllReadyH.cons (o := ⟨some 39, _, _, _, _, _⟩) rfl (fun K hK => ?_) AllReadyH.nil
     go_simp
     refine Calls.mono hpt.out ?_
     rintro en w6 ⟨rfl, p6, k6⟩
     (try go_wp2_with fail)
     refine hK.out _ _ ?_ ?_
     ·(try dsimp only); exact hSS.out _ k6
     clear hK K hHeld; intro hHeld
     (try simp only [Act.put, List.setIfInBounds_toArray, List.set_cons_zero, List.set_cons_succ])
     refine wpAnyH_done (by kernel_rfl) ?_ _
     replace p6 := hide p6
     have k7 := hide (k5.out.trans k6)
     clear hSS hpi hpt k5 k6
     rw [← hmore.out] at p6
     go_wp2
     go_roundw
     case measure => simp [intOf]; omega
     case rel => exact ⟨j + 1, by omega, by first | rfl | trivial, k7, p6⟩
   ·have hgt : decide ((0 : Int) < (j : Int)) = false := by
     rw [decide_eq_false_iff_not]
     omega
    rw [if_neg hj0] at hmore
    change Hid (_ = parF n u _ _ (btD (parF n) t last j p)) at hmore
    have g4 := g3
    have y4 := y3
    have z4 := z3
    have k4 := k3
    clear g3 y3 z3 k3 a0 hwo
    generalize w3 = w4 at *
    cases last with
    | true =>
     rw [Bool.true_and] at hmore
     go_wp2_with fail
     have kdr := grow_drew (Below.refl w4.heap.size w4)
     have g5 := g4.low kdr
     have y5 := y4.below kdr
     have z5 := z4.below kdr
     have k5 := hide (k4.out.trans (KO.low (Nat.le_of_lt g4.pr.lt) kdr))
     clear kdr g4 y4 z4 k4
     have hSS : Hid (∀ w', KO b w4.drew w' → w'.cell? ⟨bt, 0, none⟩ = some (.int .i64 (kd : Int)) ∧ w'.cell? ⟨bt, 5, none⟩ = some (.slice (some ⟨kb, off, none⟩) kn kc) ∧ w'.cell? ⟨bu, 0, none⟩ = some (.int .i64 y.k) ∧ w'.cell? ⟨bu, 1, none⟩ = some (.string y.nm) ∧ w'.cell? ⟨bu, 2, none⟩ = some (.slice y.na y.nn y.nc) ∧ w'.cell? ⟨bu, 3, none⟩ = some (.bool y.s) ∧ w'.cell? ⟨bu, 4, none⟩ = some (.slice y.a y.l y.c) ∧ w'.cell? ⟨bu, 5, none⟩ = some (.slice y.ka y.kn y.kc)) := hide fun w' k => by
      have y6 := k.vb hne y5
      have z6 := k.vb hnu z5
      exact ⟨y6.c0, y6.c5, z6.c0, z6.c1, z6.c2, z6.c3, z6.c4, z6.c5⟩
     refine wp_region_held_drew (S := (fun w' => w'.cell? ⟨bt, 0, none⟩ = some (.int .i64 (kd : Int)) ∧ w'.cell? ⟨bt, 5, none⟩ = some (.slice (some ⟨kb, off, none⟩) kn kc) ∧ w'.cell? ⟨bu, 0, none⟩ = some (.int .i64 y.k) ∧ w'.cell? ⟨bu, 1, none⟩ = some (.string y.nm) ∧ w'.cell? ⟨bu, 2, none⟩ = some (.slice y.na y.nn y.nc) ∧ w'.cell? ⟨bu, 3, none⟩ = some (.bool y.s) ∧ w'.cell? ⟨bu, 4, none⟩ = some (.slice y.a y.l y.c) ∧ w'.cell? ⟨bu, 5, none⟩ = some (.slice y.ka y.kn y.kc))) (by kernel_rfl) (hSS.out _ (KO.refl _ _)) (fun hHeld => ?_)
     show wpAnyH _ _ _ _ _ 16 _ _ _
     have hpi := hide (placeIn_n hkr j w4.drew)
     have hpt := hide (hpart b w4.drew y u (pIn (kd : Int) (j == 0)) ((j : Int) == (kn : Int) - 1) _ g5)
     generalize w4.drew = wd4 at *
     clear g5 y5 z5
     refine wpAnyH_take (i := 0) (oi := ⟨some 24, _, _, _, _, _⟩) (v := ?_) rfl (by kernel_rfl) (by kernel_rfl) (by kernel_rfl) (fun _ _ _ h => by first | exact h | cases h.1) (Or.inl ⟨by rfl, ?_⟩) (by assumption) ?_
     rotate_left
     ·intro wq hSw; (try dsimp only at hSw); go_simp; (try with_reducible rfl)
     (try simp only [Act.put, List.setIfInBounds_toArray, List.set_cons_zero, List.set_cons_succ])
     refine wpAnyH_take (i := 1) (oi := ⟨some 25, _, _, _, _, _⟩) (v := ?_) rfl (by kernel_rfl) (by kernel_rfl) (by kernel_rfl) (fun _ _ _ h => by first | exact h | cases h.1) (Or.inl ⟨by rfl, ?_⟩) (by assumption) ?_
     rotate_left
     ·intro wq hSw; (try dsimp only at hSw); go_simp; (try with_reducible rfl)
     (try simp only [Act.put, List.setIfInBounds_toArray, List.set_cons_zero, List.set_cons_succ])
     refine wpAnyH_take (i := 2) (oi := ⟨some 26, _, _, _, _, _⟩) (v := ?_) rfl (by kernel_rfl) (by kernel_rfl) (by kernel_rfl) (fun _ _ _ h => by first | exact h | cases h.1) (Or.inl ⟨by rfl, ?_⟩) (by assumption) ?_
     rotate_left
     ·intro wq hSw; (try dsimp only at hSw); go_simp; (try with_reducible rfl)
     (try simp only [Act.put, List.setIfInBounds_toArray, List.set_cons_zero, List.set_cons_succ])
     refine wpAnyH_take (i := 3) (oi := ⟨some 27, _, _, _, _, _⟩) (v := ?_) rfl (by kernel_rfl) (by kernel_rfl) (by kernel_rfl) (fun _ _ _ h => by first | exact h | cases h.1) (Or.inl ⟨by rfl, ?_⟩) (by assumption) ?_
     rotate_left
     ·intro wq hSw; (try dsimp only at hSw); go_simp; (try with_reducible rfl)
     (try simp only [Act.put, List.setIfInBounds_toArray, List.set_cons_zero, List.set_cons_succ])
     refine wpAnyH_take (i := 4) (oi := ⟨some 28, _, _, _, _, _⟩) (v := ?_) rfl (by kernel_rfl) (by kernel_rfl) (by kernel_rfl) (fun _ _ _ h => by first | exact h | cases h.1) (Or.inl ⟨by rfl, ?_⟩) (by assumption) ?_
     rotate_left
     ·intro wq hSw; (try dsimp only at hSw); go_simp; (try with_reducible rfl)
     (try simp only [Act.put, List.setIfInBounds_toArray, List.set_cons_zero, List.set_cons_succ])
     refine wpAnyH_take (i := 6) (oi := ⟨some 30, _, _, _, _, _⟩) (v := ?_) rfl (by kernel_rfl) (by kernel_rfl) (by kernel_rfl) (fun _ _ _ h => by first | exact h | cases h.1) (Or.inl ⟨by rfl, ?_⟩) (by assumption) ?_
     rotate_left
     ·intro wq hSw; (try dsimp only at hSw); go_simp; (try with_reducible rfl)
     (try simp only [Act.put, List.setIfInBounds_toArray, List.set_cons_zero, List.set_cons_succ])
     refine wpAnyH_ready (rs := [5]) (by kernel_rfl) (by simp) ?_
     refine AllReadyH.cons (o := ⟨some 29, _, _, _, _, _⟩) rfl (fun K hK => ?_) AllReadyH.nil
     go_simp
     refine Calls.mono hpi.out ?_
     rintro en w5 ⟨rfl, rfl⟩
     (try go_wp2_with fail)
     refine hK.out _ _ ?_ ?_
     ·(try dsimp only); exact hSS.out _ (KO.refl _ _)
     clear hK K hHeld; intro hHeld
     (try simp only [Act.put, List.setIfInBounds_toArray, List.set_cons_zero, List.set_cons_succ])
     refine wpAnyH_take (i := 7) (oi := ⟨some 31, _, _, _, _, _⟩) (v := ?_) rfl (by kernel_rfl) (by kernel_rfl) (by kernel_rfl) (fun _ _ _ h => by first | exact h | cases h.1) (Or.inl ⟨by rfl, ?_⟩) (by assumption) ?_
     rotate_left
     ·intro wq hSw; (try dsimp only at hSw); go_simp; (try with_reducible rfl)
     (try simp only [Act.put, List.setIfInBounds_toArray, List.set_cons_zero, List.set_cons_succ])
     refine wpAnyH_take (i := 8) (oi := ⟨some 32, _, _, _, _, _⟩) (v := ?_) rfl (by kernel_rfl) (by kernel_rfl) (by kernel_rfl) (fun _ _ _ h => by first | exact h | cases h.1) (Or.inl ⟨by rfl, ?_⟩) (by assumption) ?_
     rotate_left
     ·intro wq hSw; (try dsimp only at hSw); go_simp; (try with_reducible rfl)
     (try simp only [Act.put, List.setIfInBounds_toArray, List.set_cons_zero, List.set_cons_succ])
     refine wpAnyH_take (i := 9) (oi := ⟨some 33, _, _, _, _, _⟩) (v := ?_) rfl (by kernel_rfl) (by kernel_rfl) (by kernel_rfl) (fun _ _ _ h => by first | exact h | cases h.1) (Or.inl ⟨by rfl, ?_⟩) (by assumption) ?_
     rotate_left
     ·intro wq hSw; (try dsimp only at hSw); go_simp; (try with_reducible rfl)
     (try simp only [Act.put, List.setIfInBounds_toArray, List.set_cons_zero, List.set_cons_succ])
     refine wpAnyH_take (i := 10) (oi := ⟨some 34, _, _, _, _, _⟩) (v := ?_) rfl (by kernel_rfl) (by kernel_rfl) (by kernel_rfl) (fun _ _ _ h => by first | exact h | cases h.1) (Or.inl ⟨by rfl, ?_⟩) (by assumption) ?_
     rotate_left
     ·intro wq hSw; (try dsimp only at hSw); go_simp; (try with_reducible rfl)
     (try simp only [Act.put, List.setIfInBounds_toArray, List.set_cons_zero, List.set_cons_succ])
     refine wpAnyH_take (i := 11) (oi := ⟨some 35, _, _, _, _, _⟩) (v := ?_) rfl (by kernel_rfl) (by kernel_rfl) (by kernel_rfl) (fun _ _ _ h => by first | exact h | cases h.1) (Or.inl ⟨by rfl, ?_⟩) (by assumption) ?_
     rotate_left
     ·intro wq hSw; (try dsimp only at hSw); go_simp; (try with_reducible rfl)
     (try simp only [Act.put, List.setIfInBounds_toArray, List.set_cons_zero, List.set_cons_succ])
     refine wpAnyH_take (i := 12) (oi := ⟨some 36, _, _, _, _, _⟩) (v := ?_) rfl (by kernel_rfl) (by kernel_rfl) (by kernel_rfl) (fun _ _ _ h => by first | exact h | cases h.1) (Or.inl ⟨by rfl, ?_⟩) (by assumption) ?_
     rotate_left
     ·intro wq hSw; (try dsimp only at hSw); go_simp; (try with_reducible rfl)
     (try simp only [Act.put, List.setIfInBounds_toArray, List.set_cons_zero, List.set_cons_succ])
     refine wpAnyH_take (i := 13) (oi := ⟨some 37, _, _, _, _, _⟩) (v := ?_) rfl (by kernel_rfl) (by kernel_rfl) (by kernel_rfl) (fun _ _ _ h => by first | exact h | cases h.1) (Or.inl ⟨by rfl, ?_⟩) (by assumption) ?_
     rotate_left
     ·intro wq hSw; (try dsimp only at hSw); go_simp; (try with_reducible rfl)
     (try simp only [Act.put, List.setIfInBounds_toArray, List.set_cons_zero, List.set_cons_succ])
     refine wpAnyH_take (i := 14) (oi := ⟨some 38, _, _, _, _, _⟩) (v := ?_) rfl (by kernel_rfl) (by kernel_rfl) (by kernel_rfl) (fun _ _ _ h => by first | exact h | cases h.1) (Or.inl ⟨by rfl, ?_⟩) (by assumption) ?_
     rotate_left
     ·intro wq hSw; (try dsimp only at hSw); go_simp; (try with_reducible rfl)
     (try simp only [Act.put, List.setIfInBounds_toArray, List.set_cons_zero, List.set_cons_succ])
     refine wpAnyH_ready (rs := [15]) (by kernel_rfl) (by simp) ?_
     refine AllReadyH.cons (o := ⟨some 39, _, _, _, _, _⟩) rfl (fun K hK => ?_) AllReadyH.nil
     go_simp
     refine Calls.mono hpt.out ?_
     rintro en w6 ⟨rfl, p6, k6⟩
     (try go_wp2_with fail)
     refine hK.out _ _ ?_ ?_
     ·(try dsimp only); exact hSS.out _ k6
     clear hK K hHeld; intro hHeld
     (try simp only [Act.put, List.setIfInBounds_toArray, List.set_cons_zero, List.set_cons_succ])
     refine wpAnyH_done (by kernel_rfl) ?_ _
     rw [hle.out] at p6
     replace p6 := hide p6
     have k7 := hide (k5.out.trans k6)
     clear hSS hpi hpt k5 k6
     rw [← hmore.out] at p6
     go_wp2
     go_roundw
     case measure => simp [intOf]; omega
     case rel => exact ⟨j + 1, by omega, by first | rfl | trivial, k7, p6⟩
    | false =>
     rw [Bool.false_and] at hmore
     go_wp2_with fail
     have kdr := grow_drew (Below.refl w4.heap.size w4)
     have g5 := g4.low kdr
     have y5 := y4.below kdr
     have z5 := z4.below kdr
     have k5 := hide (k4.out.trans (KO.low (Nat.le_of_lt g4.pr.lt) kdr))
     clear kdr g4 y4 z4 k4
     have hSS : Hid (∀ w', KO b w4.drew w' → w'.cell? ⟨bt, 0, none⟩ = some (.int .i64 (kd : Int)) ∧ w'.cell? ⟨bt, 5, none⟩ = some (.slice (some ⟨kb, off, none⟩) kn kc) ∧ w'.cell? ⟨bu, 0, none⟩ = some (.int .i64 y.k) ∧ w'.cell? ⟨bu, 1, none⟩ = some (.string y.nm) ∧ w'.cell? ⟨bu, 2, none⟩ = some (.slice y.na y.nn y.nc) ∧ w'.cell? ⟨bu, 3, none⟩ = some (.bool y.s) ∧ w'.cell? ⟨bu, 4, none⟩ = some (.slice y.a y.l y.c) ∧ w'.cell? ⟨bu, 5, none⟩ = some (.slice y.ka y.kn y.kc)) := hide fun w' k => by
      have y6 := k.vb hne y5
      have z6 := k.vb hnu z5
      exact ⟨y6.c0, y6.c5, z6.c0, z6.c1, z6.c2, z6.c3, z6.c4, z6.c5⟩
     refine wp_region_held_drew (S := (fun w' => w'.cell? ⟨bt, 0, none⟩ = some (.int .i64 (kd : Int)) ∧ w'.cell? ⟨bt, 5, none⟩ = some (.slice (some ⟨kb, off, none⟩) kn kc) ∧ w'.cell? ⟨bu, 0, none⟩ = some (.int .i64 y.k) ∧ w'.cell? ⟨bu, 1, none⟩ = some (.string y.nm) ∧ w'.cell? ⟨bu, 2, none⟩ = some (.slice y.na y.nn y.nc) ∧ w'.cell? ⟨bu, 3, none⟩ = some (.bool y.s) ∧ w'.cell? ⟨bu, 4, none⟩ = some (.slice y.a y.l y.c) ∧ w'.cell? ⟨bu, 5, none⟩ = some (.slice y.ka y.kn y.kc))) (by kernel_rfl) (hSS.out _ (KO.refl _ _)) (fun hHeld => ?_)
     show wpAnyH _ _ _ _ _ 16 _ _ _
     have hpi := hide (placeIn_n hkr j w4.drew)
     have hpt := hide (hpart b w4.drew y u (pIn (kd : Int) (j == 0)) false _ g5)
     generalize w4.drew = wd4 at *
     clear g5 y5 z5
     refine wpAnyH_take (i := 0) (oi := ⟨some 24, _, _, _, _, _⟩) (v := ?_) rfl (by kernel_rfl) (by kernel_rfl) (by kernel_rfl) (fun _ _ _ h => by first | exact h | cases h.1) (Or.inl ⟨by rfl, ?_⟩) (by assumption) ?_
     rotate_left
     ·intro wq hSw; (try dsimp only at hSw); go_simp; (try with_reducible rfl)
     (try simp only [Act.put, List.setIfInBounds_toArray, List.set_cons_zero, List.set_cons_succ])
     refine wpAnyH_take (i := 1) (oi := ⟨some 25, _, _, _, _, _⟩) (v := ?_) rfl (by kernel_rfl) (by kernel_rfl) (by kernel_rfl) (fun _ _ _ h => by first | exact h | cases h.1) (Or.inl ⟨by rfl, ?_⟩) (by assumption) ?_
     rotate_left
     ·intro wq hSw; (try dsimp only at hSw); go_simp; (try with_reducible rfl)
     (try simp only [Act.put, List.setIfInBounds_toArray, List.set_cons_zero, List.set_cons_succ])
     refine wpAnyH_take (i := 2) (oi := ⟨some 26, _, _, _, _, _⟩) (v := ?_) rfl (by kernel_rfl) (by kernel_rfl) (by kernel_rfl) (fun _ _ _ h => by first | exact h | cases h.1) (Or.inl ⟨by rfl, ?_⟩) (by assumption) ?_
     rotate_left
     ·intro wq hSw; (try dsimp only at hSw); go_simp; (try with_reducible rfl)
     (try simp only [Act.put, List.setIfInBounds_toArray, List.set_cons_zero, List.set_cons_succ])
     refine wpAnyH_take (i := 3) (oi := ⟨some 27, _, _, _, _, _⟩) (v := ?_) rfl (by kernel_rfl) (by kernel_rfl) (by kernel_rfl) (fun _ _ _ h => by first | exact h | cases h.1) (Or.inl ⟨by rfl, ?_⟩) (by assumption) ?_
     rotate_left
     ·intro wq hSw; (try dsimp only at hSw); go_simp; (try with_reducible rfl)
     (try simp only [Act.put, List.setIfInBounds_toArray, List.set_cons_zero, List.set_cons_succ])
     refine wpAnyH_take (i := 4) (oi := ⟨some 28, _, _, _, _, _⟩) (v := ?_) rfl (by kernel_rfl) (by kernel_rfl) (by kernel_rfl) (fun _ _ _ h => by first | exact h | cases h.1) (Or.inl ⟨by rfl, ?_⟩) (by assumption) ?_
     rotate_left
     ·intro wq hSw; (try dsimp only at hSw); go_simp; (try with_reducible rfl)
     (try simp only [Act.put, List.setIfInBounds_toArray, List.set_cons_zero, List.set_cons_succ])
     refine wpAnyH_take (i := 6) (oi := ⟨some 30, _, _, _, _, _⟩) (v := ?_) rfl (by kernel_rfl) (by kernel_rfl) (by kernel_rfl) (fun _ _ _ h => by first | exact h | cases h.1) (Or.inl ⟨by rfl, ?_⟩) (by assumption) ?_
     rotate_left
     ·intro wq hSw; (try dsimp only at hSw); go_simp; (try with_reducible rfl)
     (try simp only [Act.put, List.setIfInBounds_toArray, List.set_cons_zero, List.set_cons_succ])
     refine wpAnyH_ready (rs := [5]) (by kernel_rfl) (by simp) ?_
     refine AllReadyH.cons (o := ⟨some 29, _, _, _, _, _⟩) rfl (fun K hK => ?_) AllReadyH.nil
     go_simp
     refine Calls.mono hpi.out ?_
     rintro en w5 ⟨rfl, rfl⟩
     (try go_wp2_with fail)
     refine hK.out _ _ ?_ ?_
     ·(try dsimp only); exact hSS.out _ (KO.refl _ _)
     clear hK K hHeld; intro hHeld
     (try simp only [Act.put, List.setIfInBounds_toArray, List.set_cons_zero, List.set_cons_succ])
     refine wpAnyH_take (i := 7) (oi := ⟨some 31, _, _, _, _, _⟩) (v := ?_) rfl (by kernel_rfl) (by kernel_rfl) (by kernel_rfl) (fun _ _ _ h => by first | exact h | cases h.1) (Or.inl ⟨by rfl, ?_⟩) (by assumption) ?_
     rotate_left
     ·intro wq hSw; (try dsimp only at hSw); go_simp; (try with_reducible rfl)
     (try simp only [Act.put, List.setIfInBounds_toArray, List.set_cons_zero, List.set_cons_succ])
     refine wpAnyH_take (i := 8) (oi := ⟨some 32, _, _, _, _, _⟩) (v := undef) rfl (by kernel_rfl) (by kernel_rfl) (by kernel_rfl) (fun _ _ _ h => by first | exact h | cases h.1) (Or.inr ⟨by rfl, rfl⟩) (by assumption) ?_
     (try simp only [Act.put, List.setIfInBounds_toArray, List.set_cons_zero, List.set_cons_succ])
     refine wpAnyH_take (i := 9) (oi := ⟨some 33, _, _, _, _, _⟩) (v := undef) rfl (by kernel_rfl) (by kernel_rfl) (by kernel_rfl) (fun _ _ _ h => by first | exact h | cases h.1) (Or.inr ⟨by rfl, rfl⟩) (by assumption) ?_
     (try simp only [Act.put, List.setIfInBounds_toArray, List.set_cons_zero, List.set_cons_succ])
     refine wpAnyH_take (i := 10) (oi := ⟨some 34, _, _, _, _, _⟩) (v := undef) rfl (by kernel_rfl) (by kernel_rfl) (by kernel_rfl) (fun _ _ _ h => by first | exact h | cases h.1) (Or.inr ⟨by rfl, rfl⟩) (by assumption) ?_
     (try simp only [Act.put, List.setIfInBounds_toArray, List.set_cons_zero, List.set_cons_succ])
     refine wpAnyH_take (i := 11) (oi := ⟨some 35, _, _, _, _, _⟩) (v := undef) rfl (by kernel_rfl) (by kernel_rfl) (by kernel_rfl) (fun _ _ _ h => by first | exact h | cases h.1) (Or.inr ⟨by rfl, rfl⟩) (by assumption) ?_
     (try simp only [Act.put, List.setIfInBounds_toArray, List.set_cons_zero, List.set_cons_succ])
     refine wpAnyH_take (i := 12) (oi := ⟨some 36, _, _, _, _, _⟩) (v := undef) rfl (by kernel_rfl) (by kernel_rfl) (by kernel_rfl) (fun _ _ _ h => by first | exact h | cases h.1) (Or.inr ⟨by rfl, rfl⟩) (by assumption) ?_
     (try simp only [Act.put, List.setIfInBounds_toArray, List.set_cons_zero, List.set_cons_succ])
     refine wpAnyH_take (i := 13) (oi := ⟨some 37, _, _, _, _, _⟩) (v := undef) rfl (by kernel_rfl) (by kernel_rfl) (by kernel_rfl) (fun _ _ _ h => by first | exact h | cases h.1) (Or.inr ⟨by rfl, rfl⟩) (by assumption) ?_
     (try simp only [Act.put, List.setIfInBounds_toArray, List.set_cons_zero, List.set_cons_succ])
     refine wpAnyH_take (i := 14) (oi := ⟨some 38, _, _, _, _, _⟩) (v := ?_) rfl (by kernel_rfl) (by kernel_rfl) (by kernel_rfl) (fun _ _ _ h => by first | exact h | cases h.1) (Or.inl ⟨by rfl, ?_⟩) (by assumption) ?_
     rotate_left
     ·intro wq hSw; (try dsimp only at hSw); go_simp; (try with_reducible rfl)
     (try simp only [Act.put, List.setIfInBounds_toArray, List.set_cons_zero, List.set_cons_succ])
     refine wpAnyH_ready (rs := [15]) (by kernel_rfl) (by simp) ?_
     refine AllReadyH.cons (o := ⟨some 39, _, _, _, _, _⟩) rfl (fun K hK => ?_) AllReadyH.nil
     go_simp
     refine Calls.mono hpt.out ?_
     rintro en w6 ⟨rfl, p6, k6⟩
     (try go_wp2_with fail)
     refine hK.out _ _ ?_ ?_
     ·(try dsimp only); exact hSS.out _ k6
     clear hK K hHeld; intro hHeld
     (try simp only [Act.put, List.setIfInBounds_toArray, List.set_cons_zero, List.set_cons_succ])
     refine wpAnyH_done (by kernel_rfl) ?_ _
     replace p6 := hide p6
     have k7 := hide (k5.out.trans k6)
     clear hSS hpi hpt k5 k6
     rw [← hmore.out] at p6
     go_wp2
     go_roundw
     case measure => simp [intOf]; omega
     case rel => exact ⟨j + 1, by omega, by first | rfl | trivial, k7, p6⟩
  ·obtain rfl : j = kn := by omega
   have hlt : decide ((j : Int) < (j : Int)) = false := by simp
   have k3 := hide (k0.out.trans kw.out)
   go_wp2
   go_end0
   exact ⟨rfl, by rw [hln]; exact pw.out, k3.out⟩
/-- PART WRITES AS THE DATA SAY -/
theorem part_n (n : Nat) : PartOk n := by
 induction n with
 | zero => exact fun b w x t pl last p h => absurd ⟨t, rfl⟩ h.dp
 | succ n ih => exact part_step n (bare_step n (ahead_step n ih) (between_step n ih))
end Sx
end Go.Proofs.YtgpaajolcpgeaaaGreatDoor

namespace Go.Proofs.YtgpaajolcpgeaaaGreatDoor
open Go.RowKit
namespace Sx

theorem PrV.cd {b : Nat} {p v : Value} {l : List UInt8} {g o : Bool} {w : World} (h : PrV b p v l g o w) : w.drew.cell? ⟨b, 1, none⟩ = some v := h.c1
theorem cell_bel {b i : Nat} {w w' : World} {v : Value} (h : w.cell? ⟨b, i, none⟩ = some v) (k : Below (b + 1) w w') : w'.cell? ⟨b, i, none⟩ = some v := (k.cell (p := ⟨b, i, none⟩) (Nat.lt_succ_self b)).trans h
set_option maxHeartbeats 2000000 in
set_option maxRecDepth 100000 in
theorem bstring_some {b : Nat} {p v : Value} {l : List UInt8} {g o : Bool} {w : World} (h : PrV b p v l g o w) (h0 : l ≠ []) : Calls Tryz.prog 42 #[.pointer (some ⟨b, 0, none⟩)] w fun e w' => e = .returned (.string ⟨l.toArray⟩) ∧ Below (b + 1) w w' := by
 have hl0 : l.length ≠ 0 := by simpa using h0
 have c1 := h.cd
 have hown := h.2
 obtain ⟨gg, cap, cur, rfl, hbg, hg, hnc, hcm, hcs, htake⟩ : ∃ g cap cur, v = .slice (some ⟨g, 0, none⟩) l.length cap ∧ b + 1 ≤ g ∧ w.heap[g]? = some (.cells cur 5 (0, 0)) ∧ l.length ≤ cap ∧ cap ≤ maxLen ∧ cur.size = cap * 1 ∧ cur.toList.take (l.length * 1) = Lib.byteCells l := by
  rcases hown.2 with ⟨_, hz⟩ | ⟨g, cap, cur, hv, r⟩
  ·exact absurd hz hl0
  ·exact ⟨g, cap, cur, hv, r⟩
 have hSD : (Builtin.unsafeSliceData_ #[65] 132 #[.slice (some ⟨gg, 0, none⟩) l.length cap]).run Tryz.prog w.drew = .ok (.pointer (some ⟨gg, 0, none⟩)) w.drew :=
  Lib.run_unsafeSliceData_row _ _ _ _ _ _ (by omega)
 have hUS : (Builtin.unsafeString_ #[132, 3] 9 #[.pointer (some ⟨gg, 0, none⟩), .int .i64 l.length]).run Tryz.prog w.drew = .ok (.string ⟨l.toArray⟩) (w.drew.freeze ⟨gg, 0, none⟩ l.length) := by
  refine Lib.run_unsafeString_row w.drew 132 3 9 5 Tryz.underlying132 (by kernel_rfl) gg cur.size (by have hg' : w.drew.heap[gg]? = some (.cells cur 5 (0, 0)) := hg; simp [World.shape?, hg']) l h0 (by omega) (by unfold maxLen at hcm; omega) ?_
  intro j x hx
  exact hown.cells (g := gg) rfl j (.int .u8 x.toNat) (by simp [Lib.byteCells, hx])
 have hB : Hid (Below (b + 1) w (w.drew.freeze ⟨gg, 0, none⟩ l.length)) := hide (Lib.below_freeze (Below.drew (Below.refl (b + 1) w)) (p := ⟨gg, 0, none⟩) hbg _)
 have c2 := hide (cell_bel h.c1 hB.out)
 clear h hown hg hcs htake hnc hcm
 generalize l.length = ln at *
 go_enter Tryz.func42, Tryz.ntmps42
 go_wp2_with fail
 refine wp_region_held_drew (S := (fun w' => w'.cell? ⟨b, 1, none⟩ = some (.slice (some ⟨gg, 0, none⟩) ln cap))) (by kernel_rfl) c1 (fun hHeld => ?_)
 show wpAnyH _ _ _ _ _ 12 _ _ _
 refine wpAnyH_take (i := 0) (oi := ⟨some 3, _, _, _, _, _⟩) (v := ?_) rfl (by kernel_rfl) (by kernel_rfl) (by kernel_rfl) (fun _ _ _ h => by first | exact h | cases h.1) (Or.inl ⟨by rfl, ?_⟩) (by assumption) ?_
 rotate_left
 ·intro wq hSw; (try dsimp only at hSw); go_simp; (try with_reducible rfl)
 (try simp only [Act.put, List.setIfInBounds_toArray, List.set_cons_zero, List.set_cons_succ])
 refine wpAnyH_take (i := 1) (oi := ⟨some 4, _, _, _, _, _⟩) (v := ?_) rfl (by kernel_rfl) (by kernel_rfl) (by kernel_rfl) (fun _ _ _ h => by first | exact h | cases h.1) (Or.inl ⟨by rfl, ?_⟩) (by assumption) ?_
 rotate_left
 ·intro wq hSw; (try dsimp only at hSw); go_simp; (try with_reducible rfl)
 (try simp only [Act.put, List.setIfInBounds_toArray, List.set_cons_zero, List.set_cons_succ])
 refine wpAnyH_take (i := 2) (oi := ⟨some 5, _, _, _, _, _⟩) (v := ?_) rfl (by kernel_rfl) (by kernel_rfl) (by kernel_rfl) (fun _ _ _ h => by first | exact h | cases h.1) (Or.inl ⟨by rfl, ?_⟩) (by assumption) ?_
 rotate_left
 ·intro wq hSw; (try dsimp only at hSw); go_simp; (try with_reducible rfl)
 (try simp only [Act.put, List.setIfInBounds_toArray, List.set_cons_zero, List.set_cons_succ])
 refine wpAnyH_take (i := 3) (oi := ⟨some 6, _, _, _, _, _⟩) (v := ?_) rfl (by kernel_rfl) (by kernel_rfl) (by kernel_rfl) (fun _ _ _ h => by first | exact h | cases h.1) (Or.inl ⟨by rfl, ?_⟩) (by assumption) ?_
 rotate_left
 ·intro wq hSw; (try dsimp only at hSw); go_simp; (try with_reducible rfl)
 (try simp only [Act.put, List.setIfInBounds_toArray, List.set_cons_zero, List.set_cons_succ])
 refine wpAnyH_take (i := 5) (oi := ⟨some 8, _, _, _, _, _⟩) (v := ?_) rfl (by kernel_rfl) (by kernel_rfl) (by kernel_rfl) (fun _ _ _ h => by first | exact h | cases h.1) (Or.inl ⟨by rfl, ?_⟩) (by assumption) ?_
 rotate_left
 ·intro wq hSw; (try dsimp only at hSw); go_simp; (try with_reducible rfl)
 (try simp only [Act.put, List.setIfInBounds_toArray, List.set_cons_zero, List.set_cons_succ])
 refine wpAnyH_take (i := 6) (oi := ⟨some 9, _, _, _, _, _⟩) (v := ?_) rfl (by kernel_rfl) (by kernel_rfl) (by kernel_rfl) (fun _ _ _ h => by first | exact h | cases h.1) (Or.inl ⟨by rfl, ?_⟩) (by assumption) ?_
 rotate_left
 ·intro wq hSw; (try dsimp only at hSw); go_simp; (try with_reducible rfl)
 (try simp only [Act.put, List.setIfInBounds_toArray, List.set_cons_zero, List.set_cons_succ])
 refine wpAnyH_take (i := 7) (oi := ⟨some 10, _, _, _, _, _⟩) (v := ?_) rfl (by kernel_rfl) (by kernel_rfl) (by kernel_rfl) (fun _ _ _ h => by first | exact h | cases h.1) (Or.inl ⟨by rfl, ?_⟩) (by assumption) ?_
 rotate_left
 ·intro wq hSw; (try dsimp only at hSw); go_simp; (try with_reducible rfl)
 (try simp only [Act.put, List.setIfInBounds_toArray, List.set_cons_zero, List.set_cons_succ])
 refine wpAnyH_take (i := 8) (oi := ⟨some 11, _, _, _, _, _⟩) (v := ?_) rfl (by kernel_rfl) (by kernel_rfl) (by kernel_rfl) (fun _ _ _ h => by first | exact h | cases h.1) (Or.inl ⟨by rfl, ?_⟩) (by assumption) ?_
 rotate_left
 ·intro wq hSw; (try dsimp only at hSw); go_simp; (try with_reducible rfl)
 (try simp only [Act.put, List.setIfInBounds_toArray, List.set_cons_zero, List.set_cons_succ])
 refine wpAnyH_take (i := 9) (oi := ⟨some 12, _, _, _, _, _⟩) (v := ?_) rfl (by kernel_rfl) (by kernel_rfl) (by kernel_rfl) (fun _ _ _ h => by first | exact h | cases h.1) (Or.inl ⟨by rfl, ?_⟩) (by assumption) ?_
 rotate_left
 ·intro wq hSw; (try dsimp only at hSw); go_simp; (try with_reducible rfl)
 (try simp only [Act.put, List.setIfInBounds_toArray, List.set_cons_zero, List.set_cons_succ])
 refine wpAnyH_ready (rs := [4]) (by kernel_rfl) (by simp) ?_
 refine AllReadyH.cons (o := ⟨some 7, _, _, _, _, _⟩) rfl (fun K hK => ?_) AllReadyH.nil
 go_simp
 refine hK.out _ _ ?_ ?_
 ·(try dsimp only); exact c1
 clear hK K hHeld; intro hHeld
 (try simp only [Act.put, List.setIfInBounds_toArray, List.set_cons_zero, List.set_cons_succ])
 refine wpAnyH_ready (rs := [10]) (by kernel_rfl) (by simp) ?_
 refine AllReadyH.cons (o := ⟨some 13, _, _, _, _, _⟩) rfl (fun K hK => ?_) AllReadyH.nil
 go_simp
 refine hK.out _ _ ?_ ?_
 ·(try dsimp only); exact c2.out
 clear hK K hHeld; intro hHeld
 (try simp only [Act.put, List.setIfInBounds_toArray, List.set_cons_zero, List.set_cons_succ])
 refine wpAnyH_ready (rs := [11]) (by kernel_rfl) (by simp) ?_
 refine AllReadyH.cons (o := ⟨some 2, _, _, _, _, _⟩) rfl (fun K hK => ?_) AllReadyH.nil
 go_simp
 refine hK.out _ _ ?_ ?_
 ·(try dsimp only); exact c2.out
 clear hK K hHeld; intro hHeld
 (try simp only [Act.put, List.setIfInBounds_toArray, List.set_cons_zero, List.set_cons_succ])
 refine wpAnyH_done (by kernel_rfl) ?_ _
 go_wp2
 refine bodyPost_ret (results_tmp rfl _ _ _) rfl ?_
 exact ⟨rfl, hB.out⟩
set_option maxHeartbeats 2000000 in
set_option maxRecDepth 100000 in
theorem bstring_zero {b cap : Nat} {ad q : Option Addr} {w W : World} (c1 : w.drew.cell? ⟨b, 1, none⟩ = some (.slice ad 0 cap)) (hSD : (Builtin.unsafeSliceData_ #[65] 132 #[.slice ad 0 cap]).run Tryz.prog w.drew = .ok (.pointer q) W) (hb : Below (b + 1) w W) : Calls Tryz.prog 42 #[.pointer (some ⟨b, 0, none⟩)] w fun e w' => e = .returned (.string ⟨#[]⟩) ∧ Below (b + 1) w w' := by
 have hUS : (Builtin.unsafeString_ #[132, 3] 9 #[.pointer q, .int .i64 0]).run Tryz.prog W = .ok (.string .empty) W := Lib.run_unsafeString_none W _ _ _ q
 have hB := hide hb
 have c2 : Hid (W.cell? ⟨b, 1, none⟩ = some (.slice ad 0 cap)) := hide (cell_bel (w := w) c1 hb)
 clear hb
 go_enter Tryz.func42, Tryz.ntmps42
 go_wp2_with fail
 refine wp_region_held_drew (S := (fun w' => w'.cell? ⟨b, 1, none⟩ = some (.slice ad 0 cap))) (by kernel_rfl) c1 (fun hHeld => ?_)
 show wpAnyH _ _ _ _ _ 12 _ _ _
 refine wpAnyH_take (i := 0) (oi := ⟨some 3, _, _, _, _, _⟩) (v := ?_) rfl (by kernel_rfl) (by kernel_rfl) (by kernel_rfl) (fun _ _ _ h => by first | exact h | cases h.1) (Or.inl ⟨by rfl, ?_⟩) (by assumption) ?_
 rotate_left
 ·intro wq hSw; (try dsimp only at hSw); go_simp; (try with_reducible rfl)
 (try simp only [Act.put, List.setIfInBounds_toArray, List.set_cons_zero, List.set_cons_succ])
 refine wpAnyH_take (i := 1) (oi := ⟨some 4, _, _, _, _, _⟩) (v := ?_) rfl (by kernel_rfl) (by kernel_rfl) (by kernel_rfl) (fun _ _ _ h => by first | exact h | cases h.1) (Or.inl ⟨by rfl, ?_⟩) (by assumption) ?_
 rotate_left
 ·intro wq hSw; (try dsimp only at hSw); go_simp; (try with_reducible rfl)
 (try simp only [Act.put, List.setIfInBounds_toArray, List.set_cons_zero, List.set_cons_succ])
 refine wpAnyH_take (i := 2) (oi := ⟨some 5, _, _, _, _, _⟩) (v := ?_) rfl (by kernel_rfl) (by kernel_rfl) (by kernel_rfl) (fun _ _ _ h => by first | exact h | cases h.1) (Or.inl ⟨by rfl, ?_⟩) (by assumption) ?_
 rotate_left
 ·intro wq hSw; (try dsimp only at hSw); go_simp; (try with_reducible rfl)
 (try simp only [Act.put, List.setIfInBounds_toArray, List.set_cons_zero, List.set_cons_succ])
 refine wpAnyH_take (i := 3) (oi := ⟨some 6, _, _, _, _, _⟩) (v := ?_) rfl (by kernel_rfl) (by kernel_rfl) (by kernel_rfl) (fun _ _ _ h => by first | exact h | cases h.1) (Or.inl ⟨by rfl, ?_⟩) (by assumption) ?_
 rotate_left
 ·intro wq hSw; (try dsimp only at hSw); go_simp; (try with_reducible rfl)
 (try simp only [Act.put, List.setIfInBounds_toArray, List.set_cons_zero, List.set_cons_succ])
 refine wpAnyH_take (i := 5) (oi := ⟨some 8, _, _, _, _, _⟩) (v := ?_) rfl (by kernel_rfl) (by kernel_rfl) (by kernel_rfl) (fun _ _ _ h => by first | exact h | cases h.1) (Or.inl ⟨by rfl, ?_⟩) (by assumption) ?_
 rotate_left
 ·intro wq hSw; (try dsimp only at hSw); go_simp; (try with_reducible rfl)
 (try simp only [Act.put, List.setIfInBounds_toArray, List.set_cons_zero, List.set_cons_succ])
 refine wpAnyH_take (i := 6) (oi := ⟨some 9, _, _, _, _, _⟩) (v := ?_) rfl (by kernel_rfl) (by kernel_rfl) (by kernel_rfl) (fun _ _ _ h => by first | exact h | cases h.1) (Or.inl ⟨by rfl, ?_⟩) (by assumption) ?_
 rotate_left
 ·intro wq hSw; (try dsimp only at hSw); go_simp; (try with_reducible rfl)
 (try simp only [Act.put, List.setIfInBounds_toArray, List.set_cons_zero, List.set_cons_succ])
 refine wpAnyH_take (i := 7) (oi := ⟨some 10, _, _, _, _, _⟩) (v := ?_) rfl (by kernel_rfl) (by kernel_rfl) (by kernel_rfl) (fun _ _ _ h => by first | exact h | cases h.1) (Or.inl ⟨by rfl, ?_⟩) (by assumption) ?_
 rotate_left
 ·intro wq hSw; (try dsimp only at hSw); go_simp; (try with_reducible rfl)
 (try simp only [Act.put, List.setIfInBounds_toArray, List.set_cons_zero, List.set_cons_succ])
 refine wpAnyH_take (i := 8) (oi := ⟨some 11, _, _, _, _, _⟩) (v := ?_) rfl (by kernel_rfl) (by kernel_rfl) (by kernel_rfl) (fun _ _ _ h => by first | exact h | cases h.1) (Or.inl ⟨by rfl, ?_⟩) (by assumption) ?_
 rotate_left
 ·intro wq hSw; (try dsimp only at hSw); go_simp; (try with_reducible rfl)
 (try simp only [Act.put, List.setIfInBounds_toArray, List.set_cons_zero, List.set_cons_succ])
 refine wpAnyH_take (i := 9) (oi := ⟨some 12, _, _, _, _, _⟩) (v := ?_) rfl (by kernel_rfl) (by kernel_rfl) (by kernel_rfl) (fun _ _ _ h => by first | exact h | cases h.1) (Or.inl ⟨by rfl, ?_⟩) (by assumption) ?_
 rotate_left
 ·intro wq hSw; (try dsimp only at hSw); go_simp; (try with_reducible rfl)
 (try simp only [Act.put, List.setIfInBounds_toArray, List.set_cons_zero, List.set_cons_succ])
 refine wpAnyH_ready (rs := [4]) (by kernel_rfl) (by simp) ?_
 refine AllReadyH.cons (o := ⟨some 7, _, _, _, _, _⟩) rfl (fun K hK => ?_) AllReadyH.nil
 go_simp
 refine hK.out _ _ ?_ ?_
 ·(try dsimp only); exact c2.out
 clear hK K hHeld; intro hHeld
 (try simp only [Act.put, List.setIfInBounds_toArray, List.set_cons_zero, List.set_cons_succ])
 refine wpAnyH_ready (rs := [10]) (by kernel_rfl) (by simp) ?_
 refine AllReadyH.cons (o := ⟨some 13, _, _, _, _, _⟩) rfl (fun K hK => ?_) AllReadyH.nil
 go_simp
 refine hK.out _ _ ?_ ?_
 ·(try dsimp only); exact c2.out
 clear hK K hHeld; intro hHeld
 (try simp only [Act.put, List.setIfInBounds_toArray, List.set_cons_zero, List.set_cons_succ])
 refine wpAnyH_ready (rs := [11]) (by kernel_rfl) (by simp) ?_
 refine AllReadyH.cons (o := ⟨some 2, _, _, _, _, _⟩) rfl (fun K hK => ?_) AllReadyH.nil
 go_simp
 refine hK.out _ _ ?_ ?_
 ·(try dsimp only); exact c2.out
 clear hK K hHeld; intro hHeld
 (try simp only [Act.put, List.setIfInBounds_toArray, List.set_cons_zero, List.set_cons_succ])
 refine wpAnyH_done (by kernel_rfl) ?_ _
 go_wp2
 refine bodyPost_ret (results_tmp rfl _ _ _) rfl ?_
 exact ⟨rfl, hB.out⟩
theorem bstring_n {b : Nat} {l : List UInt8} {g o : Bool} {w : World} (h : PrB b l g o w) : Calls Tryz.prog 42 #[.pointer (some ⟨b, 0, none⟩)] w fun e w' => e = .returned (.string ⟨l.toArray⟩) ∧ Below (b + 1) w w' := by
 obtain ⟨p, v, -, h⟩ := h
 cases l with
 | cons x r => exact bstring_some h (by simp)
 | nil =>
  have c1 := h.cd
  rcases h.2.2 with ⟨rfl, _⟩ | ⟨gg, cap, cur, rfl, hbg, hg, _⟩
  ·exact bstring_zero c1 rfl (Below.drew (Below.refl _ _))
  ·by_cases hc : cap = 0
   ·subst hc
    exact bstring_zero c1 (Lib.run_unsafeSliceData_zero w.drew _ _ 5 Tryz.underlying132 ⟨gg, 0, none⟩ 0 (5, cur.size) (by have hg' : w.drew.heap[gg]? = some (.cells cur 5 (0, 0)) := hg; simp [World.shape?, hg'])) ((Below.drew (Below.refl _ _)).alloc h.lt _)
   ·exact bstring_zero c1 (Lib.run_unsafeSliceData_row _ _ _ _ _ _ hc) (Below.drew (Below.refl _ _))
end Sx
end Go.Proofs.YtgpaajolcpgeaaaGreatDoor

namespace Go.Proofs.YtgpaajolcpgeaaaGreatDoor
open Go.RowKit
namespace Sx

/-- a printer that has written nothing -/
def ps0 : Ps := ⟨[], false, false⟩
/-- WHAT PRINT SAYS OF A TREE -/
def PrA (f : Nat) (t : Tr) (s : ByteArray) (e : Int) : Prop :=
 ∃ c, CkD t c ∧ if c ≠ 0 then s = ⟨#[]⟩ ∧ e = c else if (parF f t 0 true ps0).o = true then s = ⟨#[]⟩ ∧ e = 40 else s = ⟨(parF f t 0 true ps0).l.toArray⟩ ∧ e = 0
def PrR (f : Nat) (w : World) (t : Tr) (en : Ending) (w' : World) : Prop := Below w.heap.size w w' ∧ ∃ s e, PrA f t s e ∧ en = .returned (.tuple #[.string s, .int .i64 e])
theorem st_of {f : Nat} {t : Tr} (h : CkD t 0) (hB : Al Bd4 t) (hf : ¬ Dp f t) (hN : cntF f t ≤ 1073741824) : St4 t := by
 intro n u hu
 refine ⟨?_, hB n u hu, ?_⟩
 ·unfold CkD at h
  split at h
  ·cases h
  ·rcases h with ⟨-, h⟩ | ⟨h, -⟩
   ·cases h
   ·exact h n u hu
 ·obtain ⟨h1, h2⟩ := sub_cnt hu hf
  have h3 := cnt_self h2
  have h4 := len_le_cnL (n := f) (l := ksO u) fun v hv => dp_kid h2 hv
  omega
theorem en_of {w w' : World} (hwo : Wo w) (htab : Tab w) (k : Below w.heap.size w w') : En4 w.heap.size w' := fun w2 h2 => by
 have k2 := k.trans h2
 exact ⟨hwo.kept (k2.block _ hwo.lt), htab.below k2⟩
set_option maxRecDepth 100000 in
set_option maxHeartbeats 3200000 in
theorem print_n {w : World} {x : TC} {t : Tr} {f : Nat} (hx : Rt An w x t) (hf : ¬ Dp f t) (hN : cntF f t ≤ 1073741824) (hB : Al Bd4 t) (hwo : Wo w) (htab : Tab w) : Calls Tryz.prog 18 #[x.val] w fun en w' => PrR f w t en w' := by
 have b0 := below_alloc w (.cells #[.int .i64 x.k, .string x.nm, .slice x.na x.nn x.nc, .bool x.s, .slice x.a x.l x.c, .slice x.ka x.kn x.kc] 28)
 have y0 := vb_new w x
 have hx0 := rt_below hx b0
 have hwo0 := hwo.kept (b0.block _ hwo.lt)
 have htab0 := htab.below b0
 have hck := hide (check_n hx0 hf hN hB)
 have a0 := y0.c0
 have a1 := y0.c1
 have a2 := y0.c2
 have a3 := y0.c3
 have a4 := y0.c4
 have a5 := y0.c5
 replace hx0 := hide hx0
 replace b0 := hide b0
 go_enter Tryz.func18, Tryz.ntmps18
 go_wp2_with fail
 generalize w.alloc (.cells #[.int .i64 x.k, .string x.nm, .slice x.na x.nn x.nc, .bool x.s, .slice x.a x.l x.c, .slice x.ka x.kn x.kc] 28) = w0 at *
 have hbt : w.heap.size < w0.heap.size := y0.lt
 generalize hwz : w.heap.size = bt at *
 replace hwz := hide hwz
 refine hck.out.mono ?_
 rintro en w1 ⟨k1, c, hc, rfl⟩
 clear hck a0 a1 a2 a3 a4 a5
 have k01 := hide (b0.out.trans (k1.mono (Nat.le_of_lt hbt)))
 by_cases hc0 : c = 0
 ·subst hc0
  have b2 := below_alloc w1 (.cells #[.pointer none, .slice none 0 0, .bool false, .bool false] 73)
  have z2 := heap_alloc_new w1 (.cells #[.pointer none, .slice none 0 0, .bool false, .bool false] 73)
  have y1 := y0.below k1
  have y2 := y1.below b2
  have hx2 := rt_below (rt_below hx0.out k1) b2
  have hen := en_of (hwo0.kept (k1.block _ hwo0.lt)) (htab0.below k1) b2
  have hp2 : PrS w1.heap.size ps0 (w1.alloc (.cells #[.pointer none, .slice none 0 0, .bool false, .bool false] 73)) := ⟨_, _, .inl rfl, z2, rfl, .inl ⟨rfl, rfl⟩⟩
  have hxb : Rt (fun k => k < w1.heap.size) (w1.alloc (.cells #[.pointer none, .slice none 0 0, .bool false, .bool false] 73)) x t := rt_below ((rt_in (rt_below hx0.out k1)).imp fun b hb => hb.2) b2
  have hgv : Gv f w1.heap.size (w1.alloc (.cells #[.pointer none, .slice none 0 0, .bool false, .bool false] 73)) x t ps0 := ⟨hen, hp2, fun _ => Nat.zero_le _, hxb, st_of hc hB hf hN, hf⟩
  have hpt := hide (part_n f _ _ x t 0 true ps0 hgv)
  have k02 := hide (k01.out.trans (b2.mono (Nat.le_trans (Nat.le_of_lt hbt) k1.size)))
  have hbl : bt ≤ w1.heap.size := Nat.le_trans (Nat.le_of_lt hbt) k1.size
  have a0 := y2.c0
  have a1 := y2.c1
  have a2 := y2.c2
  have a3 := y2.c3
  have a4 := y2.c4
  have a5 := y2.c5
  clear hx0 b0 k1 k01 z2 y1 hx2 hen hp2 hxb hgv b2 y0 hwo0 htab0
  go_wp2_with fail
  refine hpt.out.mono ?_
  rintro en w3 ⟨rfl, p3, k3⟩
  clear hpt a0 a1 a2 a3 a4 a5 y2
  have k03 := hide (k02.out.trans (k3.bel.mono hbl))
  clear k02 k3
  generalize w1.heap.size = b at *
  have hA : ∀ s e, (if (parF f t 0 true ps0).o = true then s = ⟨#[]⟩ ∧ e = 40 else s = ⟨(parF f t 0 true ps0).l.toArray⟩ ∧ e = 0) → PrA f t s e := fun s e h => ⟨0, hc, by rw [if_neg (by simp)]; exact h⟩
  replace hA := hide hA
  generalize parF f t 0 true ps0 = q at *
  obtain ⟨l, g, o⟩ := q
  dsimp only at p3 hA
  have hst := hide (bstring_n p3)
  obtain ⟨p4, v4, -, h4⟩ := p3
  have c3 := h4.c3
  clear h4
  cases o with
  | true =>
   go_wp2
   refine bodyPost_ret (results_tmp2 rfl _ _ _) rfl ?_
   exact ⟨hwz.out.symm ▸ k03.out, _, _, hA.out _ _ (by simp), rfl⟩
  | false =>
   go_wp2_with fail
   refine hst.out.mono ?_
   rintro en w4 ⟨rfl, k4⟩
   go_wp2
   refine bodyPost_ret (results_tmp2 rfl _ _ _) rfl ?_
   exact ⟨hwz.out.symm ▸ k03.out.trans (k4.mono (by omega)), _, _, hA.out _ _ (by simp), rfl⟩
 ·have hcb : (c != 0) = true := by simpa using hc0
  go_wp2
  refine bodyPost_ret (results_tmp2 rfl _ _ _) rfl ?_
  exact ⟨hwz.out.symm ▸ k01.out, _, _, ⟨c, hc, by rw [if_pos hc0]; exact ⟨rfl, rfl⟩⟩, rfl⟩
end Sx
end Go.Proofs.YtgpaajolcpgeaaaGreatDoor

namespace Go.Proofs.YtgpaajolcpgeaaaGreatDoor
open Go.RowKit
namespace Sx

/-- rows of texts, compared -/
theorem equalS_n {F F' : Nat → Prop} {w : World} {a1 a2 : Option Addr} {n m c d : Nat} {l1 l2 : List ByteArray} (h1 : NmL F w a1 n l1) (h2 : NmL F' w a2 m l2) (hn : n ≤ 1073741824) (hm : m ≤ 1073741824) :
  Calls Tryz.prog 91 #[.slice a1 n c, .slice a2 m d] w fun e w' => e = .returned (.bool (decide (l1 = l2))) ∧ Below w.heap.size w w' := by
 by_cases hnm : n = m
 ·subst hnm
  rcases h1.2 with h0 | ⟨b1, o1, rfl, -, -, g1⟩
  ·subst h0
   have e1 : l1 = [] := List.eq_nil_of_length_eq_zero h1.1
   have e2 : l2 = [] := List.eq_nil_of_length_eq_zero h2.1
   refine (Tryz.slices_Equal_string_empty a1 a2 c 0 d w (by decide)).mono ?_
   rintro e w' ⟨rfl, rfl⟩
   exact ⟨by simp [e1, e2], Below.refl _ _⟩
  ·rcases h2.2 with h0 | ⟨b2, o2, rfl, -, -, g2⟩
   ·subst h0
    have e1 : l1 = [] := List.eq_nil_of_length_eq_zero h1.1
    have e2 : l2 = [] := List.eq_nil_of_length_eq_zero h2.1
    refine (Tryz.slices_Equal_string_empty _ a2 c 0 d w (by decide)).mono ?_
    rintro e w' ⟨rfl, rfl⟩
    exact ⟨by simp [e1, e2], Below.refl _ _⟩
   ·have f1 : ∀ j, j < l1.length → w.cell? ⟨b1, o1 + j, none⟩ = some (.string (l1.getD j ByteArray.empty)) := fun j hj => by
     rw [g1 j hj, List.getD_eq_getElem?_getD, List.getElem?_eq_getElem hj]
     rfl
    have f2 : ∀ j, j < l2.length → w.cell? ⟨b2, o2 + j, none⟩ = some (.string (l2.getD j ByteArray.empty)) := fun j hj => by
     rw [g2 j hj, List.getD_eq_getElem?_getD, List.getElem?_eq_getElem hj]
     rfl
    refine (Tryz.slices_Equal_string b1 o1 n c b2 o2 n d l1 l2 w (by rw [h1.1]; exact Nat.le_refl _) (by rw [h2.1]; exact Nat.le_refl _) (by omega) (by omega) f1 f2).mono ?_
    rintro e w' ⟨rfl, q, rfl⟩
    refine ⟨?_, ?_⟩
    ·rw [show l1.take n = l1 by rw [← h1.1]; exact List.take_length, show l2.take n = l2 by rw [← h2.1]; exact List.take_length]
    ·exact (Only.drewN _ _ _).below (Nat.le_refl _)
 ·refine (Tryz.slices_Equal_string_lens a1 a2 n c m d w hnm).mono ?_
  rintro e w' ⟨rfl, rfl⟩
  refine ⟨?_, Below.refl _ _⟩
  have : ¬ l1 = l2 := fun h => hnm (by rw [← h1.1, ← h2.1, h])
  simp [this]
/-- are two nodes the same, but for what is in their kids? -/
def alB (t u : Tr) : Bool := decide ((lbO t).k = (lbO u).k) && (decide ((lbO t).nm = (lbO u).nm) && (decide ((lbO t).nms = (lbO u).nms) && (decide (cmpI (nmZ (lbO t)) (nmZ (lbO u)) = 0) && decide ((ksO t).length = (ksO u).length))))
set_option maxRecDepth 100000 in
set_option maxHeartbeats 3200000 in
theorem alike_n {F F' : Nat → Prop} {w : World} {x y : TC} {t u : Tr} (hx : Rt F w x t) (hy : Rt F' w y u) (hB : Bd4 (lbO t)) (hC : Bd4 (lbO u)) :
  Calls Tryz.prog 50 #[x.val, y.val] w fun e w' => e = .returned (.bool (alB t u)) ∧ Below w.heap.size w w' := by
 obtain ⟨l1, k1, rfl⟩ := rt_of hx
 obtain ⟨l2, k2, rfl⟩ := rt_of hy
 obtain ⟨hl1, hk1⟩ := rt_nd hx
 obtain ⟨hl2, hk2⟩ := rt_nd hy
 have b1 := below_alloc w (.cells #[.int .i64 x.k, .string x.nm, .slice x.na x.nn x.nc, .bool x.s, .slice x.a x.l x.c, .slice x.ka x.kn x.kc] 28)
 have b2 := below_alloc (w.alloc (.cells #[.int .i64 x.k, .string x.nm, .slice x.na x.nn x.nc, .bool x.s, .slice x.a x.l x.c, .slice x.ka x.kn x.kc] 28)) (.cells #[.int .i64 y.k, .string y.nm, .slice y.na y.nn y.nc, .bool y.s, .slice y.a y.l y.c, .slice y.ka y.kn y.kc] 28)
 have y1 := (vb_new w x).below b2
 have y2 := vb_new (w.alloc (.cells #[.int .i64 x.k, .string x.nm, .slice x.na x.nn x.nc, .bool x.s, .slice x.a x.l x.c, .slice x.ka x.kn x.kc] 28)) y
 have n1 := (hl1.nms.kf (Kf.of_below b1)).kf (Kf.of_below b2)
 have n2 := (hl2.nms.kf (Kf.of_below b1)).kf (Kf.of_below b2)
 have r1 := (hl1.rd.below b1).below b2
 have r2 := (hl2.rd.below b1).below b2
 have hb := hide (grow_step b2 b1)
 have hal : Hid (alB (nd l1 k1) (nd l2 k2) = (decide (x.k = y.k) && (decide (x.nm = y.nm) && (decide (l1.nms = l2.nms) && (decide (cmpI (sg x.s (val l1.xs)) (sg y.s (val l2.xs)) = 0) && decide (x.kn = y.kn)))))) := hide (by
  unfold alB nmZ
  rw [lbO_nd, lbO_nd, ksO_nd, ksO_nd, hl1.k, hl2.k, hl1.nm, hl2.nm, hl1.s, hl2.s, hk1.1, hk2.1])
 have m1 := hl1.nms.1
 have m2 := hl2.nms.1
 have o1 := hl1.rd.1
 have o2 := hl2.rd.1
 have v1 : x.nn ≤ 1073741824 := by rw [← m1]; exact hB.nn
 have v2 : y.nn ≤ 1073741824 := by rw [← m2]; exact hC.nn
 have q1 : x.l ≤ 1073741824 := by rw [← o1]; exact hB.xs
 have q2 : y.l ≤ 1073741824 := by rw [← o2]; exact hC.xs
 clear hl1 hl2 hk1 hk2 hx hy b1 b2 m1 m2 o1 o2 hB hC
 have ez : (w.alloc (.cells #[.int .i64 x.k, .string x.nm, .slice x.na x.nn x.nc, .bool x.s, .slice x.a x.l x.c, .slice x.ka x.kn x.kc] 28)).heap.size = w.heap.size + 1 := by simp
 rw [ez] at y2
 clear ez
 go_enter Tryz.func50, Tryz.ntmps50
 iterate 8 (first | go_skip | go_guarded | go_step | go_upon | go_simp)
 generalize (w.alloc (.cells #[.int .i64 x.k, .string x.nm, .slice x.na x.nn x.nc, .bool x.s, .slice x.a x.l x.c, .slice x.ka x.kn x.kc] 28)).alloc (.cells #[.int .i64 y.k, .string y.nm, .slice y.na y.nn y.nc, .bool y.s, .slice y.a y.l y.c, .slice y.ka y.kn y.kc] 28) = W at *
 generalize hz : w.heap.size = bt at *
 replace hz := hide hz
 generalize hbu : bt + 1 = bu at *
 clear hbu
 have hbW : bt ≤ W.heap.size := Nat.le_of_lt y1.lt
 have a0 := y1.c0
 have a1 := y1.c1
 have c0 := y2.c0
 have c1 := y2.c1
 have a2 := y1.c2
 have c2 := y2.c2
 by_cases hk : x.k = y.k
 ·have hk1 : (x.k == y.k) = true := by simpa using hk
  by_cases hn : x.nm = y.nm
  ·have hn1 : (x.nm.toList == y.nm.toList) = true := toList_iff.2 hn
   have heq := hide (equalS_n (c := x.nc) (d := y.nc) n1 n2 v1 v2)
   go_wp2_with fail
   refine heq.out.mono ?_
   rintro e W1 ⟨rfl, k1'⟩
   have z1 := y1.below k1'
   have z2 := y2.below k1'
   have hb1 := hide (hb.out.trans (k1'.mono hbW))
   have hbW1 := Nat.le_trans hbW k1'.size
   have t1 := r1.below k1'
   have t2 := r2.below k1'
   clear heq a0 a1 a2 c0 c1 c2 y1 y2 hb n1 n2 r1 r2 k1'
   by_cases hm : l1.nms = l2.nms
   ·have hm1 : decide (l1.nms = l2.nms) = true := by simpa using hm
    rw [hm1]
    have d3 := z1.c3
    have d4 := z1.c4
    have e3 := z2.c3
    have e4 := z2.c4
    have hcm := hide (zcmp_n (zm_rd (sn := x.s) t1) (zm_rd (sn := y.s) t2) (by omega) (by omega))
    go_wp2_with fail
    refine hcm.out.mono ?_
    rintro e W2 ⟨rfl, k2'⟩
    have u1 := (z1.below k2').c5
    have u2 := (z2.below k2').c5
    have hb2 := hide (hb1.out.trans (k2'.mono hbW1))
    clear hcm d3 d4 e3 e4 z1 z2 hb1 t1 t2 k2'
    rw [hm1] at hal
    clear hm1
    generalize cmpI (sg x.s (val l1.xs)) (sg y.s (val l2.xs)) = cc at *
    by_cases hc : cc = 0
    ·subst hc
     by_cases hkn : x.kn = y.kn
     ·have hkn1 : ((x.kn : Int) == (y.kn : Int)) = true := by rw [beq_iff_eq]; omega
      replace hal := hide (hal.out.trans (by simp [hk, hn, hkn]) : _ = true)
      go_wp2
      refine bodyPost_ret (results_tmp rfl _ _ _) rfl ?_
      exact ⟨by rw [hal.out]; rfl, hz.out.symm ▸ hb2.out⟩
     ·have hkn1 : ((x.kn : Int) == (y.kn : Int)) = false := by rw [beq_eq_false_iff_ne]; omega
      replace hal := hide (hal.out.trans (by simp [hk, hn, hkn]) : _ = false)
      go_wp2
      refine bodyPost_ret (results_tmp rfl _ _ _) rfl ?_
      exact ⟨by rw [hal.out]; rfl, hz.out.symm ▸ hb2.out⟩
    ·have hc1 : (cc == 0) = false := by simpa using hc
     replace hal := hide (hal.out.trans (by simp [hc]) : _ = false)
     go_wp2
     refine bodyPost_ret (results_tmp rfl _ _ _) rfl ?_
     exact ⟨by rw [hal.out]; rfl, hz.out.symm ▸ hb2.out⟩
   ·have hm1 : decide (l1.nms = l2.nms) = false := by simpa using hm
    rw [hm1]
    replace hal := hide (hal.out.trans (by simp [hm]) : _ = false)
    clear hm1
    go_wp2
    refine bodyPost_ret (results_tmp rfl _ _ _) rfl ?_
    exact ⟨by rw [hal.out]; rfl, hz.out.symm ▸ hb1.out⟩
  ·have hn1 : (x.nm.toList == y.nm.toList) = false := by
    rw [Bool.eq_false_iff]
    exact fun e => hn (toList_iff.1 e)
   replace hal := hide (hal.out.trans (by simp [hn]) : _ = false)
   go_wp2
   refine bodyPost_ret (results_tmp rfl _ _ _) rfl ?_
   exact ⟨by rw [hal.out]; rfl, hz.out.symm ▸ hb.out⟩
 ·have hk1 : (x.k == y.k) = false := by simpa using hk
  replace hal := hide (hal.out.trans (by simp [hk]) : _ = false)
  go_wp2
  refine bodyPost_ret (results_tmp rfl _ _ _) rfl ?_
  exact ⟨by rw [hal.out]; rfl, hz.out.symm ▸ hb.out⟩
end Sx
end Go.Proofs.YtgpaajolcpgeaaaGreatDoor
