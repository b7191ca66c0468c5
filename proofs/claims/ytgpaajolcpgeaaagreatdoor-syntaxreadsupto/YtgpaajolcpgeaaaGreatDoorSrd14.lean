/-
 Several texts in one: P5, P6, P7, P8, P9, PA, PB, PC, PD, PE, PF, PG.
-/
import Derived.Test.YtgpaajolcpgeaaaGreatDoorSrd13
import Derived.Test.YtgpaajolcpgeaaaGreatDoorSrd04
import Derived.Laws.AppendOwnNone
import Derived.Deep.LoopGhost
namespace Go.Proofs.YtgpaajolcpgeaaaGreatDoor
open Go.RowKit
namespace Sx

/-- what name answers -/
def NaP (F : Nat → Prop) (w : World) (br : Nat) (va : Option Addr) (vn vc e : Nat) (xs : List TM) (p : Nat) (en : Ending) (w' : World) : Prop :=
 w.grownBy w' (some br) ∧ ((∃ h : p < xs.length, (xs[p]).d.kind = 2 ∧ en = .returned (.string (xs[p]).d.text) ∧ RS F w' br va vn vc e xs (p + 1)) ∨ (hk (rem xs p) ≠ 2 ∧ Pan (bad e (rem xs p)) en))
/-- all words are short -/
def Sht (xs : List TM) : Prop := ∀ x ∈ xs, x.d.text.size ≤ 4096
set_option maxRecDepth 100000 in
theorem clone_n (s : ByteArray) (w : World) (hs : s.size ≤ 281474976710656) : Calls Tryz.prog 60 #[.string s] w fun en w' => en = .returned (.string s) ∧ Below w.heap.size w w' := by
 have hc := hide (Tryz.stringslite_Clone s w hs)
 go_enter Tryz.func60, Tryz.ntmps60
 go_wp2_with fail
 refine hc.out.mono ?_
 rintro en w1 ⟨rfl, k1⟩
 go_wp2
 refine bodyPost_ret (results_tmp rfl _ _ _) rfl ?_
 exact ⟨rfl, k1⟩
set_option maxRecDepth 100000 in
set_option maxHeartbeats 3200000 in
theorem name_n {F : Nat → Prop} {w : World} {br : Nat} {va : Option Addr} {vn vc e : Nat} {xs : List TM} {p : Nat} (h : RS F w br va vn vc e xs p) (hsh : Sht xs) :
  Calls Tryz.prog 200 #[.pointer (some ⟨br, 0, none⟩)] w fun en w' => NaP F w br va vn vc e xs p en w' := by
 have hta := hide (take_n h (k := 2) (by decide))
 go_enter Tryz.func200, Tryz.ntmps200
 go_wp2_with fail
 refine hta.out.mono ?_
 rintro en w1 ⟨g1, ⟨hp, hkd, rfl, hr1⟩ | ⟨hn, hpan⟩⟩
 ·have hsz := hsh _ (List.getElem_mem hp)
  have hcl := hide (clone_n (xs[p]).d.text w1 (by omega))
  replace g1 := hide g1
  replace hr1 := hide hr1
  have hfd := fd1 (xs[p]).d.kind (xs[p]).d.text (xs[p]).ad (xs[p]).len (xs[p]).cap (xs[p]).d.at'
  unfold tokV
  replace hkd := hide hkd
  clear hta h hsh hsz
  go_wp2_with fail
  refine hcl.out.mono ?_
  rintro en w2 ⟨rfl, k2⟩
  have hg2 := hide (gbb g1.out (gb_of k2))
  have hr2 := hide (hr1.out.below k2)
  clear hcl
  go_wp2
  refine bodyPost_ret (results_tmp rfl _ _ _) rfl ?_
  exact ⟨hg2.out, .inl ⟨hp, hkd.out, rfl, hr2.out⟩⟩
 ·unfold Pan at hpan
  subst hpan
  exact ⟨rfl, g1, .inr ⟨hn, rfl⟩⟩
theorem infoStr : (Tryz.prog.info? 9).map (fun i => (i.zero, i.size, i.bytes)) = some (some (.string ⟨#[]⟩), 1, 16) := by kernel_rfl
/-- what names answers -/
def NsP (F : Nat → Prop) (w : World) (br : Nat) (va : Option Addr) (vn vc e : Nat) (xs : List TM) (p : Nat) (en : Ending) (w' : World) : Prop :=
 w.grownBy w' (some br) ∧ (((nms (rem xs p)).1 ≠ [] ∧ ∃ q na nn nc, en = .returned (.slice na nn nc) ∧ rem xs q = (nms (rem xs p)).2 ∧ RS F w' br va vn vc e xs q ∧ NmL (fun b => w.heap.size ≤ b) w' na nn (nms (rem xs p)).1) ∨ ((nms (rem xs p)).1 = [] ∧ Pan (bad e (rem xs p)) en))
theorem nms_cons {xs : List TM} {p : Nat} (h : p < xs.length) (hk2 : (xs[p]).d.kind = 2) : nms (rem xs p) = ((xs[p]).d.text :: (nms (rem xs (p + 1))).1, (nms (rem xs (p + 1))).2) := by
 rw [rem_cons h]
 simp only [nms]
 rw [if_pos hk2]
theorem nms_stop {xs : List TM} {p : Nat} (h : hk (rem xs p) ≠ 2) : nms (rem xs p) = ([], rem xs p) := by
 by_cases hp : p < xs.length
 ·rw [rem_cons hp] at h ⊢
  simp only [nms]
  rw [if_neg (show ¬ (xs[p]).d.kind = 2 from h)]
 ·rw [rem_nil (by omega)]
  rfl
theorem str_one (l : List ByteArray) : ∀ u ∈ l.map Value.string, u.oneCell' = true := by
 intro u hu
 obtain ⟨s, _, rfl⟩ := List.mem_map.1 hu
 rfl
/-- append of a text to a row of one's own -/
theorem appS {w : World} {ops : Array Oper} {rest : List Oper} {o : Oper} {a : Act} {Q : Exit → Act → World → Prop} (hgd : o.guard = none) (s x : Operand) (ho : o.op = .call { callee := .builtin .append, args := #[s, x], argTypes := #[22, 22] }) (base : Nat) (v : Value) (n : Nat) (l : List ByteArray) (hs : a.eval s = v) (hown : w.ownsRow base 9 1 v n (l.map Value.string))
  (t : ByteArray) (g : Nat) (hx : a.eval x = .slice (some ⟨g, 0, none⟩) 1 1) (hc : w.cell? ⟨g, 0, none⟩ = some (.string t)) (h63 : n + 1 ≤ 1048576) (hbase : base ≤ w.heap.size)
  (h : ∀ v' w', w'.ownsRow base 9 1 v' (n + 1) ((l ++ [t]).map Value.string) → w.grownBy w' v.ownBlock → (v'.ownBlock = v.ownBlock ∨ v'.ownBlock = some w.heap.size) → wpList Tryz.prog ops Q rest (a.put o.dst v') w') : wpList Tryz.prog ops Q (o :: rest) a w := by
 obtain ⟨i0, hi, hz0, hz1, hz2⟩ := info_parts infoStr
 refine wpList_append_own_at w hgd s x 22 ho base 9 i0 _ 1 16 Tryz.underlying22 hi hz0 hz1 hz2 rfl (by decide) v n (l.map Value.string) hs hown ⟨g, 0, none⟩ 1 1 [.string t] hx rfl (fun j u hu => ?_) (str_one [t]) (by unfold maxLen; omega) (by omega) hbase ?_
 ·cases j with
  | zero =>
   cases hu
   exact hc
  | succ j => simp at hu
 ·intro v' w' h1 h2 _ h4
  refine h v' w' ?_ h2 h4
  rw [List.map_append]
  exact h1
theorem gb_row {w w1 w2 : World} {m : Nat} {o : Option Nat} (h : w.grownBy w1 (some m)) (k : w1.grownBy w2 o) (ho : ∀ b, o = some b → w.heap.size ≤ b) : w.grownBy w2 (some m) :=
 ⟨k.os.trans h.os, k.tape.trans h.tape, k.output.trans h.output, Nat.le_trans h.size k.size, fun i hi hn => (k.block i (Nat.lt_of_lt_of_le hi h.size) fun e => by have := ho i e.symm; omega).trans (h.block i hi hn)⟩
/-- a row of one's own reads -/
theorem own_nml {w : World} {base n : Nat} {v : Value} {l : List ByteArray} (h : w.ownsRow base 9 1 v n (l.map Value.string)) : ∃ a c, v = .slice a n c ∧ NmL (fun b => base ≤ b) w a n l := by
 have hn : l.length = n := by have := h.1; rw [List.length_map] at this; omega
 rcases h.2 with ⟨rfl, rfl⟩ | ⟨g, cap, cur, rfl, hb, hg, hc, hm, hs, ht⟩
 ·exact ⟨none, 0, rfl, hn, .inl rfl⟩
 ·refine ⟨_, cap, rfl, hn, .inr ⟨g, 0, rfl, hb, lt_of_block hg, fun i hi => ?_⟩⟩
  have e : cur.toList[i]? = some (.string l[i]) := by
   have h1 : (cur.toList.take (n * 1))[i]? = some (.string l[i]) := by rw [ht, List.getElem?_map, List.getElem?_eq_getElem hi]; rfl
   rw [List.getElem?_take, if_pos (by omega)] at h1
   exact h1
  rw [cell_of_row w g (0 + i) _ _ (0, 0) hg, Nat.zero_add]
  simpa using e
set_option maxRecDepth 100000 in
set_option maxHeartbeats 3200000 in
theorem names_n {F : Nat → Prop} {w : World} {br : Nat} {va : Option Addr} {vn vc e : Nat} {xs : List TM} {p : Nat} (h : RS F w br va vn vc e xs p) (hsh : Sht xs) :
  Calls Tryz.prog 191 #[.pointer (some ⟨br, 0, none⟩)] w fun en w' => NsP F w br va vn vc e xs p en w' := by
 have hna := hide (name_n h hsh)
 go_enter Tryz.func191, Tryz.ntmps191
 go_wp2_with fail
 refine hna.out.mono ?_
 rintro en w1 ⟨g1, ⟨hp, hkd, rfl, hr1⟩ | ⟨hn, hpan⟩⟩
 ·have hb1 := below_alloc w1 (.cells #[.string (xs[p]).d.text] 9)
  have hg0 : Hid (w.grownBy (w1.alloc (.cells #[.string (xs[p]).d.text] 9)) (some br)) := hide (gbb g1 (gb_of hb1))
  have hbr0 : Hid ((w1.alloc (.cells #[.string (xs[p]).d.text] 9)).heap[br]? = some (.cells #[.slice va vn vc, .int .i64 ((p + 1 : Nat) : Int), .int .i64 e] 122 (0, 0))) := hide ((hr1.below hb1).b)
  have hrow0 : Hid ((w1.alloc (.cells #[.string (xs[p]).d.text] 9)).ownsRow w.heap.size 9 1 (.slice (some ⟨w1.heap.size, 0, none⟩) 1 1) 1 ([(xs[p]).d.text].map Value.string)) := hide ⟨rfl, .inr ⟨w1.heap.size, 1, #[.string (xs[p]).d.text], rfl, g1.size, heap_alloc_new w1 _, Nat.le_refl _, by decide, rfl, rfl⟩⟩
  have hn0 : Hid (nms (rem xs p) = ([(xs[p]).d.text] ++ (nms (rem xs (p + 1))).1, (nms (rem xs (p + 1))).2)) := hide (nms_cons hp hkd)
  have hxl : xs.length ≤ 1048576 := by have := h.nl; have := h.ws.n; omega
  have hbl := h.lt
  replace h := hide h
  clear hna hb1 hr1 g1 hkd
  go_wp2_with fail
  generalize w1.alloc (.cells #[.string (xs[p]).d.text] 9) = w2 at *
  generalize (xs[p]).d.text = tx at *
  generalize w1.heap.size = gg at *
  go_loopw [3] (fun v wr => ∃ (l : List ByteArray) (q : Nat), l ≠ [] ∧ l.length ≤ q ∧ q ≤ xs.length ∧ Hid (wr.ownsRow w.heap.size 9 1 v l.length (l.map Value.string)) ∧ Hid (nms (rem xs p) = (l ++ (nms (rem xs q)).1, (nms (rem xs q)).2)) ∧ Hid (wr.heap[br]? = some (.cells #[.slice va vn vc, .int .i64 (q : Int), .int .i64 e] 122 (0, 0))) ∧ Hid (w.grownBy wr (some br))) (fun v _ => xs.length + 1 - (match v with | .slice _ n _ => n | _ => 0))
  case atStart => exact ⟨[tx], p + 1, by simp, by simp, hp, hrow0, hn0, hbr0, hg0⟩
  case round =>
   obtain ⟨l, q, hl0, hlq, hq, hrow, hn, hbq, hg⟩ := hrel
   have hR := h.out.to hg.out hbq.out hq
   have hnx := hide (next_n hR 0 (by decide))
   obtain ⟨kd, t1, ad, ln, cp, at', e1, e2, -, -⟩ := tkV_is xs q
   rw [Nat.add_zero, e1] at hnx
   replace e2 := hide e2
   have hfd := fd0 kd t1 ad ln cp at'
   obtain ⟨av, cv, rfl, hnl⟩ := own_nml hrow.out
   replace hnl := hide hnl
   replace hR := hide hR
   clear e1
   go_wp2_with fail
   refine hnx.out.mono ?_
   rintro en w3 ⟨rfl, k3⟩
   have hR3 := hR.out.below k3
   have hg3 := hide (gbb hg.out (gb_of k3))
   clear hnx hg0 hbr0 hn0 hrow0
   by_cases hkd : kd = 2
   ·have hna := hide (name_n hR3 hsh)
    have hrow3 := hide (hrow.out.kept (row := none) ⟨k3.os, k3.tape, k3.output, k3.size, fun i hi _ => k3.block i hi⟩ (by
     rcases Option.eq_none_or_eq_some (Value.ownBlock (.slice av l.length cv)) with e | ⟨b, e⟩
     ·exact .inl e
     ·exact .inr (by rw [e]; simp)))
    subst hkd
    go_wp2_with fail
    refine hna.out.mono ?_
    rintro en w4 ⟨g4, ⟨hq1, hk1, rfl, hR4⟩ | ⟨hn4, hpan⟩⟩
    ·have b5 := below_alloc w4 (.cells #[.string (xs[q]).d.text] 9)
     have hg5 := hide (gbb (gbb hg3.out g4) (gb_of b5))
     have hb5 := hide (hR4.below b5).b
     have hrow4 := hrow3.out.kept g4 (by
      rcases Option.eq_none_or_eq_some (Value.ownBlock (.slice av l.length cv)) with e | ⟨b, e⟩
      ·exact .inl e
      ·refine .inr fun e2 => ?_
       have := (hrow.out.lt b e).1
       rw [e] at e2
       cases e2
       omega)
     have hrow5 := hide (hrow4.kept (row := none) ⟨b5.os, b5.tape, b5.output, b5.size, fun i hi _ => b5.block i hi⟩ (by
      rcases Option.eq_none_or_eq_some (Value.ownBlock (.slice av l.length cv)) with e | ⟨b, e⟩
      ·exact .inl e
      ·exact .inr (by rw [e]; simp)))
     have hc5 : (w4.alloc (.cells #[.string (xs[q]).d.text] 9)).cell? ⟨w4.heap.size, 0, none⟩ = some (.string (xs[q]).d.text) := cell_of_row _ w4.heap.size 0 _ _ (0, 0) (heap_alloc_new w4 _)
     have hn5 : Hid (nms (rem xs p) = ((l ++ [(xs[q]).d.text]) ++ (nms (rem xs (q + 1))).1, (nms (rem xs (q + 1))).2)) := hide (by rw [hn.out, nms_cons hq1 hk1]; simp)
     have hbase : w.heap.size ≤ (w4.alloc (.cells #[.string (xs[q]).d.text] 9)).heap.size := hg5.out.size
     clear hna hrow4 b5 hR4 g4 hR3 hR hbq hrow hrow3 hk1
     generalize (xs[q]).d.text = t5 at *
     go_wp2_with (refine appS rfl _ _ rfl w.heap.size _ l.length l rfl hrow5.out t5 w4.heap.size rfl hc5 (by omega) hbase ?_)
     intro v' w6 ho6 hg6 hb6
     have hob : ∀ b, Value.ownBlock (.slice av l.length cv) = some b → w.heap.size ≤ b := fun b e => (hrow5.out.lt b e).1
     have hg7 := hide (gb_row hg5.out hg6 hob)
     have hb7 := hide ((hg6.block br (lt_of_block hb5.out) (fun e => by have := hob br e.symm; omega)).trans hb5.out)
     rw [show List.map Value.string l ++ [Value.string t5] = (l ++ [t5]).map Value.string by simp, show l.length + 1 = (l ++ [t5]).length by simp] at ho6
     obtain ⟨av6, cv6, rfl, -⟩ := own_nml ho6
     replace ho6 := hide ho6
     clear hg6 hb6 hob hc5 hrow5 hb5 hg5 hn hfd
     go_wp2
     exact ⟨⟨l ++ [t5], q + 1, by simp, by simp; omega, hq1, ho6, hn5, hb7, hg7⟩, by simp; omega⟩
    ·unfold Pan at hpan
     subst hpan
     refine ⟨rfl, gbb hg3.out g4, .inr ?_⟩
     exact absurd e2.out.symm hn4
   ·have hres : Hid (nms (rem xs p) = (l, rem xs q)) := hide (by rw [hn.out, nms_stop (fun e => hkd (e2.out.trans e))]; simp)
    have hbf : (kd == 2) = false := by simpa using hkd
    have hnl3 := hide (hnl.out.kf (Kf.of_below k3))
    replace hR3 := hide hR3
    clear hn e2 hnl hR hbq hrow k3
    go_wp2
    refine bodyPost_ret (results_tmp rfl _ _ _) rfl ?_
    exact ⟨hg3.out, .inl ⟨by rw [hres.out]; exact hl0, q, av, l.length, cv, rfl, by rw [hres.out], hR3.out, by rw [hres.out]; exact hnl3.out⟩⟩
 ·unfold Pan at hpan
  subst hpan
  exact ⟨rfl, g1, .inr ⟨by rw [nms_stop hn], rfl⟩⟩
end Sx
end Go.Proofs.YtgpaajolcpgeaaaGreatDoor

namespace Go.Proofs.YtgpaajolcpgeaaaGreatDoor
open Go.RowKit
namespace Sx

/-- the block of a tree's variable -/
def VB (w : World) (b : Nat) (x : TC) : Prop := w.heap[b]? = some (.cells #[.int .i64 x.k, .string x.nm, .slice x.na x.nn x.nc, .bool x.s, .slice x.a x.l x.c, .slice x.ka x.kn x.kc] 28 (0, 0))
theorem VB.lt {w : World} {b : Nat} {x : TC} (h : VB w b x) : b < w.heap.size := lt_of_block h
theorem VB.below {w w' : World} {b : Nat} {x : TC} (h : VB w b x) (k : Below w.heap.size w w') : VB w' b x := (k.block b h.lt).trans h
theorem VB.grown {w w' : World} {b m : Nat} {x : TC} (h : VB w b x) (k : w.grownBy w' (some m)) (hm : b ≠ m) : VB w' b x := (k.block b h.lt fun e => hm (Option.some.inj e)).trans h
theorem VB.c0 {w : World} {b : Nat} {x : TC} (h : VB w b x) : w.cell? ⟨b, 0, none⟩ = some (.int .i64 x.k) := cell_of_row w b 0 _ _ (0, 0) h
theorem VB.c1 {w : World} {b : Nat} {x : TC} (h : VB w b x) : w.cell? ⟨b, 1, none⟩ = some (.string x.nm) := cell_of_row w b 1 _ _ (0, 0) h
theorem VB.c2 {w : World} {b : Nat} {x : TC} (h : VB w b x) : w.cell? ⟨b, 2, none⟩ = some (.slice x.na x.nn x.nc) := cell_of_row w b 2 _ _ (0, 0) h
theorem VB.c3 {w : World} {b : Nat} {x : TC} (h : VB w b x) : w.cell? ⟨b, 3, none⟩ = some (.bool x.s) := cell_of_row w b 3 _ _ (0, 0) h
theorem VB.c4 {w : World} {b : Nat} {x : TC} (h : VB w b x) : w.cell? ⟨b, 4, none⟩ = some (.slice x.a x.l x.c) := cell_of_row w b 4 _ _ (0, 0) h
theorem VB.c5 {w : World} {b : Nat} {x : TC} (h : VB w b x) : w.cell? ⟨b, 5, none⟩ = some (.slice x.ka x.kn x.kc) := cell_of_row w b 5 _ _ (0, 0) h
theorem VB.f {w : World} {b : Nat} {x : TC} (h : VB w b x) (i : Nat) : w.frozen? ⟨b, i, none⟩ = false := frozen_of_row w b i _ _ h
theorem vb_new (w : World) (x : TC) : VB (w.alloc (.cells #[.int .i64 x.k, .string x.nm, .slice x.na x.nn x.nc, .bool x.s, .slice x.a x.l x.c, .slice x.ka x.kn x.kc] 28)) w.heap.size x := heap_alloc_new w _
/-- no tree -/
def tz : TC := ⟨0, ⟨#[]⟩, none, 0, 0, false, none, 0, 0, none, 0, 0⟩
theorem vb_zero (w : World) : VB (w.alloc (.cells #[.int .i64 0, .string ⟨#[]⟩, .slice none 0 0, .bool false, .slice none 0 0, .slice none 0 0] 28)) w.heap.size tz := heap_alloc_new w _
/-- a whole tree is stored -/
def vSet (w : World) (b : Nat) (x : TC) : World := (((((w.setCell ⟨b, 0, none⟩ (.int .i64 x.k)).setCell ⟨b, 1, none⟩ (.string x.nm)).setCell ⟨b, 2, none⟩ (.slice x.na x.nn x.nc)).setCell ⟨b, 3, none⟩ (.bool x.s)).setCell ⟨b, 4, none⟩ (.slice x.a x.l x.c)).setCell ⟨b, 5, none⟩ (.slice x.ka x.kn x.kc)
theorem vb_set {w : World} {b : Nat} {x : TC} (h : VB w b x) (y : TC) : VB (vSet w b y) b y := by
 have y0 := heap_setCell_same w b 0 _ 28 (.int .i64 y.k) h
 have y1 := heap_setCell_same _ b 1 _ 28 (.string y.nm) y0
 have y2 := heap_setCell_same _ b 2 _ 28 (.slice y.na y.nn y.nc) y1
 have y3 := heap_setCell_same _ b 3 _ 28 (.bool y.s) y2
 have y4 := heap_setCell_same _ b 4 _ 28 (.slice y.a y.l y.c) y3
 have y5 := heap_setCell_same _ b 5 _ 28 (.slice y.ka y.kn y.kc) y4
 unfold VB vSet
 simpa using y5
theorem v_only (w : World) (b : Nat) (y : TC) : Only b w (vSet w b y) :=
 (((((Only.set b 0 w _).trans (Only.set b 1 _ _)).trans (Only.set b 2 _ _)).trans (Only.set b 3 _ _)).trans (Only.set b 4 _ _)).trans (Only.set b 5 _ _)
/-- the reader's constant surroundings -/
structure Rx where
 br : Nat
 P : Nat → Prop
 va : Option Addr
 vn : Nat
 vc : Nat
 e : Nat
 xs : List TM
abbrev Rx.F (X : Rx) : Nat → Prop := fun b => b < X.br ∧ X.P b
/-- older than the reader, or new -/
abbrev Rx.G (X : Rx) (w : World) : Nat → Prop := fun b => (b < X.br ∧ X.P b) ∨ w.heap.size ≤ b
abbrev Rx.S (X : Rx) (w : World) (p : Nat) : Prop := RS X.F w X.br X.va X.vn X.vc X.e X.xs p
abbrev Rx.ptr (X : Rx) : Value := .pointer (some ⟨X.br, 0, none⟩)
/-- what a rule answers -/
def GP (X : Rx) (w : World) (r : Res) (en : Ending) (w' : World) : Prop :=
 w.grownBy w' (some X.br) ∧ match r with
  | .inl c => Pan c en
  | .inr (t, ts) => ∃ (x : TC) (q : Nat), en = .returned x.val ∧ Rt (X.G w) w' x t ∧ rem X.xs q = ts ∧ X.S w' q
/-- a function reads by a rule -/
def Rd4 (X : Rx) (K tag n : Nat) : Prop := ∀ (w : World) (p : Nat) (r : Res), X.S w p → Gr X.e n tag [] (rem X.xs p) = some r → Calls Tryz.prog K #[X.ptr] w (GP X w r)
theorem NmL.imp {F F' : Nat → Prop} {w : World} {na : Option Addr} {nn : Nat} {l : List ByteArray} (h : NmL F w na nn l) (hF : ∀ b, F b → F' b) : NmL F' w na nn l :=
 ⟨h.1, h.2.imp id fun ⟨b, off, h1, h2, h3⟩ => ⟨b, off, h1, hF b h2, h3⟩⟩
theorem RL.imp {F F' : Nat → Prop} {w : World} {x : TC} {l : Lab} (h : RL F w x l) (hF : ∀ b, F b → F' b) : RL F' w x l := { h with nms := h.nms.imp hF, inr := fun b off e h0 => hF b (h.inr b off e h0) }
theorem RT.imp {F F' : Nat → Prop} {w : World} (hF : ∀ b, F b → F' b) (n : Nat) : ∀ {x : TC} {t : Tr}, RT F w n x t → RT F' w n x t := by
 induction n with
 | zero => exact fun h => h.elim
 | succ n ih =>
  rintro x t ⟨l, ks, h1, h2, h3, h4⟩
  refine ⟨l, ks, h1, h2.imp hF, h3, h4.imp id fun ⟨b, off, e, hb, hl, h5⟩ => ⟨b, off, e, hF b hb, hl, fun i hi => ?_⟩⟩
  obtain ⟨y, h6, h7⟩ := h5 i hi
  exact ⟨y, h6, ih h7⟩
theorem Rt.imp {F F' : Nat → Prop} {w : World} {x : TC} {t : Tr} (h : Rt F w x t) (hF : ∀ b, F b → F' b) : Rt F' w x t := by
 obtain ⟨n, h⟩ := h
 exact ⟨n, RT.imp hF n h⟩
/-- trees stay where the reader goes on, and where a variable is written that is no part of them -/
theorem rt_gb {X : Rx} {w0 w w' : World} {x : TC} {t : Tr} (h : Rt (X.G w0) w x t) (hb : X.br < w0.heap.size) (g : w.grownBy w' (some X.br)) : Rt (X.G w0) w' x t := h.kf (Kf.of_grown g fun h => by rcases h with h | h <;> omega)
theorem rt_only {X : Rx} {w0 w w' : World} {x : TC} {t : Tr} {r : Nat} (h : Rt (X.G w0) w x t) (hb : X.br ≤ r) (hr : r < w0.heap.size) (o : Only r w w') : Rt (X.G w0) w' x t :=
 h.kf ⟨by rw [o.size]; exact Nat.le_refl _, fun b hF _ => o.block b (by rcases hF with h | h <;> omega)⟩
theorem rt_below {F : Nat → Prop} {w w' : World} {x : TC} {t : Tr} (h : Rt F w x t) (k : Below w.heap.size w w') : Rt F w' x t := h.kf (Kf.of_below k)
/-- two kids side by side in a block of their own -/
theorem rk_two {F : Nat → Prop} {w : World} {b : Nat} {x y : TC} {t u : Tr} (hb : w.heap[b]? = some (.cells (x.enc ++ y.enc).toArray 28 (0, 0))) (hF : F b) (hx : Rt F w x t) (hy : Rt F w y u) : RK F w (Rt F w) (some ⟨b, 0, none⟩) 2 [t, u] := by
 refine ⟨rfl, .inr ⟨b, 0, rfl, hF, ⟨_, _, hb⟩, fun i hi => ?_⟩⟩
 match i, hi with
 | 0, _ =>
  refine ⟨x, fun j hj => ?_, hx⟩
  rw [cell_of_row w b (0 + 0 * 6 + j) _ _ (0, 0) hb]
  match j, hj with
  | 0, _ => rfl
  | 1, _ => rfl
  | 2, _ => rfl
  | 3, _ => rfl
  | 4, _ => rfl
  | 5, _ => rfl
 | 1, _ =>
  refine ⟨y, fun j hj => ?_, hy⟩
  rw [cell_of_row w b (0 + 1 * 6 + j) _ _ (0, 0) hb]
  match j, hj with
  | 0, _ => rfl
  | 1, _ => rfl
  | 2, _ => rfl
  | 3, _ => rfl
  | 4, _ => rfl
  | 5, _ => rfl
theorem rk_one {F : Nat → Prop} {w : World} {b : Nat} {x : TC} {t : Tr} (hb : w.heap[b]? = some (.cells x.enc.toArray 28 (0, 0))) (hF : F b) (hx : Rt F w x t) : RK F w (Rt F w) (some ⟨b, 0, none⟩) 1 [t] := by
 refine ⟨rfl, .inr ⟨b, 0, rfl, hF, ⟨_, _, hb⟩, fun i hi => ?_⟩⟩
 match i, hi with
 | 0, _ =>
  refine ⟨x, fun j hj => ?_, hx⟩
  rw [cell_of_row w b (0 + 0 * 6 + j) _ _ (0, 0) hb]
  match j, hj with
  | 0, _ => rfl
  | 1, _ => rfl
  | 2, _ => rfl
  | 3, _ => rfl
  | 4, _ => rfl
  | 5, _ => rfl
theorem rd_nil (w : World) : Rd w none 0 0 [] := ⟨rfl, Nat.le_refl _, by decide, fun _ hz => (by cases hz), .inl ⟨rfl, rfl, rfl⟩⟩
/-- a label without a number, without names -/
theorem rl_k (F : Nat → Prop) (w : World) (k : Int) (ka : Option Addr) (kn kc : Nat) : RL F w ⟨k, ⟨#[]⟩, none, 0, 0, false, none, 0, 0, ka, kn, kc⟩ (lk k) :=
 ⟨rfl, rfl, rfl, nmL_nil _ _ _, rd_nil w, fun b off e _ => by cases e⟩
/-- the answer's variable is written at last -/
theorem gp_ret {X : Rx} {w wa w5 : World} {p q : Nat} {x : TC} {t : Tr} (hS0 : X.S w p) (hra : w.heap.size < wa.heap.size) (hg5 : w.grownBy w5 (some X.br)) (hx : Rt (X.G wa) w5 x t) (hS6 : X.S w5 q) : GP X w (.inr (t, rem X.xs q)) (.returned x.val) (vSet w5 w.heap.size x) := by
 have hbr := hS0.lt
 have ho := v_only w5 w.heap.size x
 have hgf := gb_only hg5 ho (Nat.le_refl _)
 exact ⟨hgf, x, q, rfl, (rt_only hx (Nat.le_of_lt hbr) hra ho).imp fun b hb => hb.imp id fun h => Nat.le_trans (Nat.le_of_lt hra) h, rfl, hS0.to hgf ((ho.block X.br (by omega)).trans hS6.b) hS6.pl⟩
/-- a tree of two kids side by side -/
theorem rt_two {F : Nat → Prop} {w : World} {b : Nat} {k : Int} {x y : TC} {t u : Tr} (hb : w.heap[b]? = some (.cells #[.int .i64 x.k, .string x.nm, .slice x.na x.nn x.nc, .bool x.s, .slice x.a x.l x.c, .slice x.ka x.kn x.kc, .int .i64 y.k, .string y.nm, .slice y.na y.nn y.nc, .bool y.s, .slice y.a y.l y.c, .slice y.ka y.kn y.kc] 28 (0, 0))) (hF : F b) (hx : Rt F w x t) (hy : Rt F w y u) : Rt F w ⟨k, ⟨#[]⟩, none, 0, 0, false, none, 0, 0, some ⟨b, 0, none⟩, 2, 2⟩ (nd (lk k) [t, u]) :=
 rt_mk (rl_k F w k _ 2 2) (rk_two hb hF hx hy)
end Sx
end Go.Proofs.YtgpaajolcpgeaaaGreatDoor

namespace Go.Proofs.YtgpaajolcpgeaaaGreatDoor
open Go.RowKit
namespace Sx

theorem th_some {x : Option Res} {f : Tr → List TD → Option Res} {r : Res} (h : th x f = some r) : (∃ c, x = some (.inl c) ∧ r = .inl c) ∨ ∃ t ts, x = some (.inr (t, ts)) ∧ f t ts = some r := by
 unfold th at h
 cases x with
 | none => cases h
 | some y =>
  cases y with
  | inl c => exact .inl ⟨c, rfl, (Option.some.inj h).symm⟩
  | inr p => exact .inr ⟨p.1, p.2, rfl, h⟩
set_option maxRecDepth 100000 in
set_option maxHeartbeats 3200000 in
theorem implied_step {X : Rx} {n : Nat} (hO : Rd4 X 143 3 n) (hI : Rd4 X 110 2 n) : Rd4 X 110 2 (n + 1) := by
 intro w p r hS hG
 have hG : th (Gr X.e n 3 [] (rem X.xs p)) (fun t r => if hd r = wd 19 then th (Gr X.e n 2 [] r.tail) fun u q => some (.inr (nd (lk 19) [t, u], q)) else some (.inr (t, r))) = some r := hG
 have b0 := below_alloc w (.cells #[.int .i64 0, .string ⟨#[]⟩, .slice none 0 0, .bool false, .slice none 0 0, .slice none 0 0] 28)
 have y := vb_zero w
 have hbr := hS.lt
 have hb2 : w.heap.size ≠ X.br := by omega
 have hS0 := hide hS
 replace hS := hS.below b0
 rcases th_some hG with ⟨c, h1, rfl⟩ | ⟨t, ts, h1, h2⟩
 ·have hc := hide (hO _ p _ hS h1)
  clear hG h1 hO hI hS
  go_enter Tryz.func110, Tryz.ntmps110
  go_wp2_with fail
  refine hc.out.mono ?_
  rintro en w1 ⟨g1, hpan⟩
  unfold Pan at hpan
  subst hpan
  exact ⟨rfl, gbb (gb_of b0) g1, rfl⟩
 ·have hc := hide (hO _ p _ hS h1)
  replace b0 := hide b0
  clear hG h1 hO hS
  go_enter Tryz.func110, Tryz.ntmps110
  go_wp2_with fail
  refine hc.out.mono ?_
  rintro en w1 ⟨g1, x, q, rfl, hx, rfl, hS1⟩
  clear hc
  have y1 := y.grown g1 hb2
  have b2 := below_alloc w1 (.cells #[.int .i64 x.k, .string x.nm, .slice x.na x.nn x.nc, .bool x.s, .slice x.a x.l x.c, .slice x.ka x.kn x.kc] 28)
  have z2 := vb_new w1 x
  have y2 := y1.below b2
  have hS2 := hS1.below b2
  have hx2 := rt_below hx b2
  have hba : X.br < (w.alloc (.cells #[.int .i64 0, .string ⟨#[]⟩, .slice none 0 0, .bool false, .slice none 0 0, .slice none 0 0] 28)).heap.size := by simp; omega
  have hra : w.heap.size < (w.alloc (.cells #[.int .i64 0, .string ⟨#[]⟩, .slice none 0 0, .bool false, .slice none 0 0, .slice none 0 0] 28)).heap.size := by simp
  generalize w.alloc (.cells #[.int .i64 0, .string ⟨#[]⟩, .slice none 0 0, .bool false, .slice none 0 0, .slice none 0 0] 28) = wa at *
  have hg2 := hide (gbb (gbb (gb_of b0.out) g1) (gb_of b2))
  have hzy : w.heap.size < w1.heap.size := y1.lt
  have cw := hS2.wo.cell (k := 19) (by decide)
  have hps := hide (passes_n hS2 (wd_ne (k := 19) (by decide) (by decide)))
  have hwa2 : wa.heap.size ≤ w1.heap.size := g1.size
  clear g1 b2 hS1 hx y1 y b0 hG
  go_wp2_with fail
  generalize w1.alloc (.cells #[.int .i64 x.k, .string x.nm, .slice x.na x.nn x.nc, .bool x.s, .slice x.a x.l x.c, .slice x.ka x.kn x.kc] 28) = w2 at *
  generalize w1.heap.size = bt at *
  clear cw
  refine hps.out.mono ?_
  rintro en w3 ⟨g3, ⟨he, rfl, hS3⟩ | ⟨he, rfl, hS3⟩⟩
  ·rw [if_pos he, rem_tail] at h2
   have hbt : bt ≠ X.br := by omega
   have z3 := z2.grown g3 hbt
   have y3 := y2.grown g3 hb2
   have hx3 := rt_gb hx2 hba g3
   have hg3 := hide (gbb hg2.out g3)
   have hwa3 : wa.heap.size ≤ w3.heap.size := by have := g3.size; have := z2.lt; omega
   clear hps hg2 z2 y2 hx2 hS2 g3
   have hSS : Hid (∀ w', w3.grownBy w' (some X.br) → w'.cell? ⟨bt, 0, none⟩ = some (.int .i64 x.k) ∧ w'.cell? ⟨bt, 1, none⟩ = some (.string x.nm) ∧ w'.cell? ⟨bt, 2, none⟩ = some (.slice x.na x.nn x.nc) ∧ w'.cell? ⟨bt, 3, none⟩ = some (.bool x.s) ∧ w'.cell? ⟨bt, 4, none⟩ = some (.slice x.a x.l x.c) ∧ w'.cell? ⟨bt, 5, none⟩ = some (.slice x.ka x.kn x.kc)) := hide fun w' g => by
    have z := z3.grown g hbt
    exact ⟨z.c0, z.c1, z.c2, z.c3, z.c4, z.c5⟩
   go_wp2_with fail
   refine wp_region_held_drew (S := (fun w' => w'.cell? ⟨bt, 0, none⟩ = some (.int .i64 x.k) ∧ w'.cell? ⟨bt, 1, none⟩ = some (.string x.nm) ∧ w'.cell? ⟨bt, 2, none⟩ = some (.slice x.na x.nn x.nc) ∧ w'.cell? ⟨bt, 3, none⟩ = some (.bool x.s) ∧ w'.cell? ⟨bt, 4, none⟩ = some (.slice x.a x.l x.c) ∧ w'.cell? ⟨bt, 5, none⟩ = some (.slice x.ka x.kn x.kc))) (by kernel_rfl) (hSS.out _ (gb_of (grow_drew (Below.refl _ _)))) (fun hHeld => ?_)
   show wpAnyH _ _ _ _ _ 6 _ _ _
   have kd := grow_drew (Below.refl w3.heap.size w3)
   have hS4 := hS3.below kd
   have hgd := hide (gb_of (m := X.br) kd)
   generalize w3.drew = wd3 at *
   refine wpAnyH_take (i := 0) (oi := ⟨some 10, _, _, _, _, _⟩) (v := ?_) rfl (by kernel_rfl) (by kernel_rfl) (by kernel_rfl) (fun _ _ _ h => by first | exact h | cases h.1) (Or.inl ⟨by rfl, ?_⟩) (by assumption) ?_
   rotate_left
   ·intro wq hSw; (try dsimp only at hSw); go_simp; (try with_reducible rfl)
   (try simp only [Act.put, List.setIfInBounds_toArray, List.set_cons_zero, List.set_cons_succ])
   refine wpAnyH_take (i := 1) (oi := ⟨some 11, _, _, _, _, _⟩) (v := ?_) rfl (by kernel_rfl) (by kernel_rfl) (by kernel_rfl) (fun _ _ _ h => by first | exact h | cases h.1) (Or.inl ⟨by rfl, ?_⟩) (by assumption) ?_
   rotate_left
   ·intro wq hSw; (try dsimp only at hSw); go_simp; (try with_reducible rfl)
   (try simp only [Act.put, List.setIfInBounds_toArray, List.set_cons_zero, List.set_cons_succ])
   refine wpAnyH_ready (rs := [2]) (by kernel_rfl) (by simp) ?_
   refine AllReadyH.cons (o := ⟨some 12, _, _, _, _, _⟩) rfl (fun K hK => ?_) AllReadyH.nil
   go_simp
   rcases th_some h2 with ⟨c, h5, rfl⟩ | ⟨u, us, h5, h6⟩
   ·refine Calls.mono (hI _ (q + 1) _ hS4 h5) ?_
    rintro en w4 ⟨g4, hpan⟩
    unfold Pan at hpan
    subst hpan
    exact ⟨rfl, gbb (gbb hg3.out hgd.out) g4, rfl⟩
   ·refine Calls.mono (hI _ (q + 1) _ hS4 h5) ?_
    rintro en w4 ⟨g4, x2, q2, rfl, hx4, rfl, hS5⟩
    obtain rfl := Option.some.inj h6
    have hgd4 := gbb hgd.out g4
    have y4 := y3.grown hgd4 hb2
    have z4 := z3.grown hgd4 hbt
    have hx5 := rt_gb hx3 hba hgd4
    have hg4 := hide (gbb hg3.out hgd4)
    (try go_wp2_with fail)
    refine hK.out _ _ ?_ ?_
    ·(try dsimp only); exact hSS.out _ hgd4
    clear hK K hHeld; intro hHeld
    (try simp only [Act.put, List.setIfInBounds_toArray, List.set_cons_zero, List.set_cons_succ])
    refine wpAnyH_ready (rs := [3]) (by kernel_rfl) (by simp) ?_
    refine AllReadyH.cons (o := ⟨some 13, _, _, _, _, _⟩) rfl (fun K hK => ?_) AllReadyH.nil
    have b5 := below_alloc w4 (.cells (x.enc ++ x2.enc).toArray 28)
    have hb5 := heap_alloc_new w4 (.cells (x.enc ++ x2.enc).toArray 28)
    have y5 := y4.below b5
    have z5 := z4.below b5
    have hxx := rt_below hx5 b5
    have hxy := rt_below hx4 b5
    have hS6 := hS5.below b5
    have hg5 := hide (gbb hg4.out (gb_of b5))
    simp only [TC.enc, List.cons_append, List.nil_append] at b5 hb5 y5 z5 hxx hxy hS6 hg5
    go_simp
    refine hK.out _ _ ?_ ?_
    ·(try dsimp only); exact ⟨z5.c0, z5.c1, z5.c2, z5.c3, z5.c4, z5.c5⟩
    clear hK K hHeld; intro hHeld
    (try simp only [Act.put, List.setIfInBounds_toArray, List.set_cons_zero, List.set_cons_succ])
    have hx6 : Rt (X.G wa) _ x2 u := hxy.imp fun b hb => hb.imp id fun h => Nat.le_trans (Nat.le_trans hwa3 kd.size) h
    have hbn : wa.heap.size ≤ w4.heap.size := Nat.le_trans hwa3 (gbb hgd.out g4).size
    generalize w4.alloc (.cells #[.int .i64 x.k, .string x.nm, .slice x.na x.nn x.nc, .bool x.s, .slice x.a x.l x.c, .slice x.ka x.kn x.kc, .int .i64 x2.k, .string x2.nm, .slice x2.na x2.nn x2.nc, .bool x2.s, .slice x2.a x2.l x2.c, .slice x2.ka x2.kn x2.kc] 28) = w5 at *
    generalize w4.heap.size = bk at *
    refine wpAnyH_ready (rs := [4]) (by kernel_rfl) (by simp) ?_
    refine AllReadyH.cons (o := ⟨some 14, _, _, _, _, _⟩) rfl (fun K hK => ?_) AllReadyH.nil
    go_simp
    refine hK.out _ _ ?_ ?_
    ·(try dsimp only); exact ⟨z5.c0, z5.c1, z5.c2, z5.c3, z5.c4, z5.c5⟩
    clear hK K hHeld; intro hHeld
    (try simp only [Act.put, List.setIfInBounds_toArray, List.set_cons_zero, List.set_cons_succ])
    refine wpAnyH_ready (rs := [5]) (by kernel_rfl) (by simp) ?_
    refine AllReadyH.cons (o := ⟨none, _, _, _, _, _⟩) rfl (fun K hK => ?_) AllReadyH.nil
    have q0 := y5.c0
    have q1 := y5.c1
    have q2' := y5.c2
    have q3 := y5.c3
    have q4 := y5.c4
    have q5 := y5.c5
    have f0 := y5.f 0
    have f1 := y5.f 1
    have f2 := y5.f 2
    have f3 := y5.f 3
    have f4 := y5.f 4
    have f5 := y5.f 5
    have ho := v_only w5 w.heap.size ⟨19, ⟨#[]⟩, none, 0, 0, false, none, 0, 0, some ⟨bk, 0, none⟩, 2, 2⟩
    have z6 : VB _ bt x := (ho.block bt (by omega)).trans z5
    go_simp
    refine hK.out _ _ ?_ ?_
    ·(try dsimp only); exact ⟨z6.c0, z6.c1, z6.c2, z6.c3, z6.c4, z6.c5⟩
    clear hK K hHeld; intro hHeld
    (try simp only [Act.put, List.setIfInBounds_toArray, List.set_cons_zero, List.set_cons_succ])
    refine wpAnyH_done (by kernel_rfl) ?_ _
    clear q0 q1 q2' q3 q4 q5 f0 f1 f2 f3 f4 f5
    go_wp2
    refine bodyPost_ret (results_cell_row rfl _ _ w.heap.size 28 _ (0, 0) _ rfl (vb_set y5 ⟨19, ⟨#[]⟩, none, 0, 0, false, none, 0, 0, some ⟨bk, 0, none⟩, 2, 2⟩) Tryz.underlying28 rfl (by kernel_rfl)) rfl ?_
    exact gp_ret hS0.out hra hg5.out (rt_two hb5 (.inr hbn) hxx hx6) hS6
  ·rw [if_neg he] at h2
   obtain rfl := Option.some.inj h2
   have hbt : bt ≠ X.br := by omega
   have z3 := z2.grown g3 hbt
   have y3 := y2.grown g3 hb2
   have hx3 := rt_gb hx2 hba g3
   have hg3 := hide (gbb hg2.out g3)
   clear hps hg2 z2 y2 hx2 hS2 g3 h2 he
   have q0 := y3.c0
   have q1 := y3.c1
   have q2' := y3.c2
   have q3 := y3.c3
   have q4 := y3.c4
   have q5 := y3.c5
   have f0 := y3.f 0
   have f1 := y3.f 1
   have f2 := y3.f 2
   have f3 := y3.f 3
   have f4 := y3.f 4
   have f5 := y3.f 5
   have r0 := z3.c0
   have r1 := z3.c1
   have r2 := z3.c2
   have r3 := z3.c3
   have r4 := z3.c4
   have r5 := z3.c5
   have hfin := hide (vb_set y3 x)
   have hres := hide (gp_ret hS0.out hra hg3.out hx3 hS3)
   clear z3 y3
   go_wp2
   refine bodyPost_ret (results_cell_row rfl _ _ w.heap.size 28 _ (0, 0) _ rfl hfin.out Tryz.underlying28 rfl (by kernel_rfl)) rfl ?_
   exact hres.out
end Sx
end Go.Proofs.YtgpaajolcpgeaaaGreatDoor

namespace Go.Proofs.YtgpaajolcpgeaaaGreatDoor
open Go.RowKit
namespace Sx

/-- a tree of one kid -/
theorem rt_one {F : Nat → Prop} {w : World} {b : Nat} {x y : TC} {l : Lab} {t : Tr} (hb : w.heap[b]? = some (.cells #[.int .i64 x.k, .string x.nm, .slice x.na x.nn x.nc, .bool x.s, .slice x.a x.l x.c, .slice x.ka x.kn x.kc] 28 (0, 0))) (hF : F b) (hx : Rt F w x t) (hl : RL F w y l) (h1 : y.ka = some ⟨b, 0, none⟩) (h2 : y.kn = 1) : Rt F w y (nd l [t]) :=
 rt_mk hl (by rw [h1, h2]; exact rk_one hb hF hx)
theorem nms_nil {ts : List TD} (h : (nms ts).1 = []) : (nms ts).2 = ts := by
 cases ts with
 | nil => rfl
 | cons t ts =>
  unfold nms at h ⊢
  by_cases hk : t.kind = 2
  ·rw [if_pos hk] at h
   cases h
  ·rw [if_neg hk]
theorem g_le {X : Rx} {wa w3 : World} (h : wa.heap.size ≤ w3.heap.size) {w : World} {x : TC} {t : Tr} (hx : Rt (X.G w3) w x t) : Rt (X.G wa) w x t := hx.imp fun _ hb => hb.imp id fun h2 => Nat.le_trans h h2
set_option maxRecDepth 100000 in
set_option maxHeartbeats 3200000 in
theorem notted_step {X : Rx} {n : Nat} (hsh : Sht X.xs) (hN : Rd4 X 183 7 n) (hF : Rd4 X 66 0 n) (hP : Rd4 X 193 8 n) : Rd4 X 183 7 (n + 1) := by
 intro w p r hS hG
 have hG : (if hd (rem X.xs p) = wd 16 then th (Gr X.e n 7 [] (rem X.xs p).tail) fun t r => some (.inr (nd (lk 16) [t], r))
  else if amo 21 2 (hd (rem X.xs p)) ≠ 0 then
   if (nms (rem X.xs p).tail).1 = [] ∨ hd (nms (rem X.xs p).tail).2 ≠ dot then some (.inl (bad X.e (nms (rem X.xs p).tail).2))
   else th (Gr X.e n 0 [] (nms (rem X.xs p).tail).2.tail) fun t r => some (.inr (nd ⟨amo 21 2 (hd (rem X.xs p)), ⟨#[]⟩, (nms (rem X.xs p).tail).1, false, []⟩ [t], r))
  else Gr X.e n 8 [] (rem X.xs p)) = some r := hG
 have b0 := below_alloc w (.cells #[.int .i64 0, .string ⟨#[]⟩, .slice none 0 0, .bool false, .slice none 0 0, .slice none 0 0] 28)
 have y := vb_zero w
 have hbr := hS.lt
 have hb2 : w.heap.size ≠ X.br := by omega
 have hS0 := hide hS
 replace hS := hS.below b0
 have hra : w.heap.size < (w.alloc (.cells #[.int .i64 0, .string ⟨#[]⟩, .slice none 0 0, .bool false, .slice none 0 0, .slice none 0 0] 28)).heap.size := by simp
 have cw := hS.wo.cell (k := 16) (by decide)
 have hps := hide (passes_n hS (wd_ne (k := 16) (by decide) (by decide)))
 have hg0 := hide (gb_of (m := X.br) b0)
 clear b0
 go_enter Tryz.func183, Tryz.ntmps183
 go_wp2_with fail
 generalize w.alloc (.cells #[.int .i64 0, .string ⟨#[]⟩, .slice none 0 0, .bool false, .slice none 0 0, .slice none 0 0] 28) = wa at *
 clear cw hS
 refine hps.out.mono ?_
 rintro en w1 ⟨g1, ⟨he, rfl, hS1⟩ | ⟨he, rfl, hS1⟩⟩
 ·rw [if_pos he, rem_tail] at hG
  have y1 := y.grown g1 hb2
  have hg1 := hide (gbb hg0.out g1)
  have hwa1 := g1.size
  clear hps hg0 y g1 he
  rcases th_some hG with ⟨c, h1, rfl⟩ | ⟨t, ts, h1, h2⟩
  ·have hc := hide (hN _ _ _ hS1 h1)
   clear hG h1 hN hP hF hS1
   go_wp2_with fail
   refine hc.out.mono ?_
   rintro en w2 ⟨g2, hpan⟩
   unfold Pan at hpan
   subst hpan
   exact ⟨rfl, gbb hg1.out g2, rfl⟩
  ·have hc := hide (hN _ _ _ hS1 h1)
   clear hG h1 hN hP hF hS1
   go_wp2_with fail
   refine hc.out.mono ?_
   rintro en w2 ⟨g2, x, q, rfl, hx, rfl, hS2⟩
   obtain rfl := Option.some.inj h2
   have y2 := y1.grown g2 hb2
   have b3 := below_alloc w2 (.cells #[.int .i64 x.k, .string x.nm, .slice x.na x.nn x.nc, .bool x.s, .slice x.a x.l x.c, .slice x.ka x.kn x.kc] 28)
   have hb3 := heap_alloc_new w2 (.cells #[.int .i64 x.k, .string x.nm, .slice x.na x.nn x.nc, .bool x.s, .slice x.a x.l x.c, .slice x.ka x.kn x.kc] 28)
   have y3 := y2.below b3
   have hx3 := rt_below (g_le hwa1 hx) b3
   have hS3 := hS2.below b3
   have hg3 := hide (gbb (gbb hg1.out g2) (gb_of b3))
   have hwb : wa.heap.size ≤ w2.heap.size := Nat.le_trans hwa1 g2.size
   have hres := hide (gp_ret hS0.out hra hg3.out (rt_one (y := ⟨16, ⟨#[]⟩, none, 0, 0, false, none, 0, 0, some ⟨w2.heap.size, 0, none⟩, 1, 1⟩) hb3 (.inr hwb) hx3 (rl_k _ _ 16 _ 1 1) rfl rfl) hS3)
   have hfin := hide (vb_set y3 ⟨16, ⟨#[]⟩, none, 0, 0, false, none, 0, 0, some ⟨w2.heap.size, 0, none⟩, 1, 1⟩)
   have q0 := y3.c0
   have q1 := y3.c1
   have q2' := y3.c2
   have q3 := y3.c3
   have q4 := y3.c4
   have q5 := y3.c5
   have f0 := y3.f 0
   have f1 := y3.f 1
   have f2 := y3.f 2
   have f3 := y3.f 3
   have f4 := y3.f 4
   have f5 := y3.f 5
   clear hc y3 y2 y1 g2 hx b3 hb3 hx3 hS3 hS2 hg1 hg3
   go_wp2
   refine bodyPost_ret (results_cell_row rfl _ _ w.heap.size 28 _ (0, 0) _ rfl hfin.out Tryz.underlying28 rfl (by kernel_rfl)) rfl ?_
   exact hres.out
 ·rw [if_neg he] at hG
  have y1 := y.grown g1 hb2
  have hg1 := hide (gbb hg0.out g1)
  have hwa1 := g1.size
  have hka := hide (among_n hS1 (a := 21) (n := 1) (by decide) (by decide))
  clear hps hg0 y g1 he
  generalize hkn : amo 21 2 (hd (rem X.xs p)) = kn at *
  replace hkn := hide hkn
  go_wp2_with fail
  refine hka.out.mono ?_
  rintro en w2 ⟨g2, rfl, hS2, hp2⟩
  clear hka hS1
  by_cases hk0 : kn = 0
  ·rw [if_neg (by simp [hk0])] at hG
   rw [if_pos hk0] at hS2
   have y2 := y1.grown g2 hb2
   have hg2 := hide (gbb hg1.out g2)
   have hwa2 := Nat.le_trans hwa1 g2.size
   have hc := hide (hP _ _ _ hS2 hG)
   have hbf : ((kn : Int) == 0) = true := by simp [hk0]
   clear hG hg1 y1 g2 hN hP hF hp2
   go_wp2_with fail
   refine hc.out.mono ?_
   cases r with
   | inl c =>
    rintro en w3 ⟨g3, hpan⟩
    unfold Pan at hpan
    subst hpan
    exact ⟨rfl, gbb hg2.out g3, rfl⟩
   | inr tr =>
    obtain ⟨t, ts⟩ := tr
    rintro en w3 ⟨g3, x, q, rfl, hx, rfl, hS3⟩
    have y3 := y2.grown g3 hb2
    have hres := hide (gp_ret hS0.out hra (gbb hg2.out g3) (g_le hwa2 hx) hS3)
    have hfin := hide (vb_set y3 x)
    have q0 := y3.c0
    have f0 := y3.f 0
    have q1 := y3.c1
    have f1 := y3.f 1
    have q2' := y3.c2
    have f2 := y3.f 2
    have q3 := y3.c3
    have f3 := y3.f 3
    have q4 := y3.c4
    have f4 := y3.f 4
    have q5 := y3.c5
    have f5 := y3.f 5
    clear hc y3 y2 g3 hx hS3 hg2
    go_wp2
    refine bodyPost_ret (results_cell_row rfl _ _ w.heap.size 28 _ (0, 0) _ rfl hfin.out Tryz.underlying28 rfl (by kernel_rfl)) rfl ?_
    exact hres.out
  ·rw [if_pos hk0, rem_tail] at hG
   rw [if_neg hk0] at hS2
   have y2 := y1.grown g2 hb2
   have hg2 := hide (gbb hg1.out g2)
   have hwa2 := Nat.le_trans hwa1 g2.size
   have hns := hide (names_n hS2 hsh)
   have hbf : ((kn : Int) == 0) = false := by simpa using hk0
   clear hg1 y1 g2 hN hP hp2
   go_wp2_with fail
   refine hns.out.mono ?_
   rintro en w3 ⟨g3, ⟨hn1, q, na, nn, nc, rfl, hq, hS3, hnl⟩ | ⟨hn1, hpan⟩⟩
   ·rw [← hq] at hG
    have y3 := y2.grown g3 hb2
    have hg3 := hide (gbb hg2.out g3)
    have hwa3 := Nat.le_trans hwa2 g3.size
    have hnl3 : NmL (X.G wa) w3 na nn (nms (rem X.xs (p + 1))).1 := hnl.imp fun b hb => .inr (Nat.le_trans hwa2 hb)
    have hmu := hide (must_n hS3 (s := dot) (by decide))
    generalize (nms (rem X.xs (p + 1))).1 = nl at *
    clear hns hg2 y2 g3 hnl hS2 hq
    go_wp2_with fail
    refine hmu.out.mono ?_
    rintro en w4 ⟨g4, ⟨hd4, hp4, rfl, hS4⟩ | ⟨hd4, hpan⟩⟩
    ·rw [if_neg (fun h => h.elim hn1 fun h => h hd4), rem_tail] at hG
     have y4 := y3.grown g4 hb2
     have hg4 := hide (gbb hg3.out g4)
     have hwa4 := Nat.le_trans hwa3 g4.size
     have hba : X.br < wa.heap.size := by omega
     have hnl4 := hnl3.kf (Kf.of_grown g4 fun h => by rcases h with h | h <;> omega)
     clear hmu hS3 y3 hg3 g4 hnl3
     rcases th_some hG with ⟨c, h1, rfl⟩ | ⟨t, ts, h1, h2⟩
     ·have hc := hide (hF _ _ _ hS4 h1)
      clear hG h1 hF hS4 hd4
      go_wp2_with fail
      refine hc.out.mono ?_
      rintro en w5 ⟨g5, hpan⟩
      unfold Pan at hpan
      subst hpan
      exact ⟨rfl, gbb hg4.out g5, rfl⟩
     ·have hc := hide (hF _ _ _ hS4 h1)
      clear hG h1 hF hS4 hd4
      go_wp2_with fail
      refine hc.out.mono ?_
      rintro en w5 ⟨g5, x, q5, rfl, hx, rfl, hS5⟩
      obtain rfl := Option.some.inj h2
      have y5 := y4.grown g5 hb2
      have b6 := below_alloc w5 (.cells #[.int .i64 x.k, .string x.nm, .slice x.na x.nn x.nc, .bool x.s, .slice x.a x.l x.c, .slice x.ka x.kn x.kc] 28)
      have hb6 := heap_alloc_new w5 (.cells #[.int .i64 x.k, .string x.nm, .slice x.na x.nn x.nc, .bool x.s, .slice x.a x.l x.c, .slice x.ka x.kn x.kc] 28)
      have y6 := y5.below b6
      have hx6 := rt_below (g_le hwa4 hx) b6
      have hS6 := hS5.below b6
      have hnl6 := (hnl4.kf (Kf.of_grown g5 fun h => by rcases h with h | h <;> omega)).kf (Kf.of_below b6)
      have hg6 := hide (gbb (gbb hg4.out g5) (gb_of b6))
      have hwb : wa.heap.size ≤ w5.heap.size := Nat.le_trans hwa4 g5.size
      have hres := hide (gp_ret hS0.out hra hg6.out (rt_one (y := ⟨kn, ⟨#[]⟩, na, nn, nc, false, none, 0, 0, some ⟨w5.heap.size, 0, none⟩, 1, 1⟩) (l := ⟨kn, ⟨#[]⟩, nl, false, []⟩) hb6 (.inr hwb) hx6 ⟨rfl, rfl, rfl, hnl6, rd_nil _, fun b off e _ => by cases e⟩ rfl rfl) hS6)
      have hfin := hide (vb_set y6 ⟨kn, ⟨#[]⟩, na, nn, nc, false, none, 0, 0, some ⟨w5.heap.size, 0, none⟩, 1, 1⟩)
      have q0 := y6.c0
      have f0 := y6.f 0
      have q1 := y6.c1
      have f1 := y6.f 1
      have q2' := y6.c2
      have f2 := y6.f 2
      have q3 := y6.c3
      have f3 := y6.f 3
      have q4 := y6.c4
      have f4 := y6.f 4
      have q5 := y6.c5
      have f5 := y6.f 5
      clear hc y6 y5 y4 g5 hx b6 hb6 hx6 hS6 hS5 hg4 hg6 hnl6 hnl4
      go_wp2
      refine bodyPost_ret (results_cell_row rfl _ _ w.heap.size 28 _ (0, 0) _ rfl hfin.out Tryz.underlying28 rfl (by kernel_rfl)) rfl ?_
      exact hres.out
    ·unfold Pan at hpan
     subst hpan
     rw [if_pos (.inr hd4)] at hG
     obtain rfl := Option.some.inj hG
     exact ⟨rfl, gbb hg3.out g4, rfl⟩
   ·unfold Pan at hpan
    subst hpan
    rw [if_pos (.inl hn1)] at hG
    obtain rfl := Option.some.inj hG
    exact ⟨rfl, gbb hg2.out g3, by rw [nms_nil hn1]; rfl⟩
end Sx
end Go.Proofs.YtgpaajolcpgeaaaGreatDoor

namespace Go.Proofs.YtgpaajolcpgeaaaGreatDoor
open Go.RowKit
namespace Sx

theorem vl_cons (z : Int) (zs : List Int) (n : Nat) : vl (z :: zs) (n + 1) = z + 4294967296 * vl zs n := by
 induction n with
 | zero =>
  rw [vl_succ]
  show (0 : Int) + z * 1 = z + 4294967296 * 0
  omega
 | succ n ih =>
  rw [vl_succ, ih, vl_succ, pw_succ, show lz (z :: zs) (n + 1) = lz zs n from rfl, Int.mul_add, Int.mul_left_comm, Int.add_assoc]
theorem canon_tail {z : Int} {zs : List Int} (h : Canon (z :: zs)) : Canon zs := by
 refine ⟨fun x hx => h.1 x (List.mem_cons_of_mem _ hx), fun hp => ?_⟩
 have h2 := h.2 (by simp)
 rw [show (z :: zs).length - 1 = (zs.length - 1) + 1 by simp; omega] at h2
 exact h2
theorem clF_of (zs : List Int) : ∀ f, Canon zs → (val zs).toNat ≤ f → clF f (val zs).toNat = zs := by
 induction zs with
 | nil =>
  intro f _ _
  cases f with
  | zero => rfl
  | succ f => rfl
 | cons z zs ih =>
  intro f h hf
  have h1 : val (z :: zs) = z + 4294967296 * val zs := vl_cons z zs zs.length
  have hz := h.1 z (by simp)
  have hv := val_nonneg (canon_tail h).1
  have hlow := canon_low h (by simp)
  have hp := pw_pos ((z :: zs).length - 1)
  cases f with
  | zero => omega
  | succ f =>
   unfold clF
   rw [if_neg (by omega)]
   have e1 : (((val (z :: zs)).toNat % 4294967296 : Nat) : Int) = z := by omega
   have e2 : (val (z :: zs)).toNat / 4294967296 = (val zs).toNat := by omega
   rw [e1, e2, ih f (canon_tail h) (by omega)]
theorem cl_of {zs : List Int} {n : Int} (h : Canon zs) (hv : val zs = n) : cl n = zs := by
 subst hv
 exact clF_of zs _ h (Nat.le_refl _)
/-- a label with a word's number -/
theorem rl_n {F F' : Nat → Prop} {w : World} {x : TM} (hm : Rd w x.ad x.len x.cap x.zs ∧ InS F x.ad x.len ∧ Canon x.zs ∧ val x.zs = x.d.num) (hF : ∀ b, F b → F' b) (k : Int) (ka : Option Addr) (kn kc : Nat) : RL F' w ⟨k, ⟨#[]⟩, none, 0, 0, false, x.ad, x.len, x.cap, ka, kn, kc⟩ ⟨k, ⟨#[]⟩, [], false, cl x.d.num⟩ :=
 ⟨rfl, rfl, rfl, nmL_nil _ _ _, by rw [cl_of hm.2.2.1 hm.2.2.2]; exact hm.1, fun b off e h => hF b (hm.2.1 b off e h)⟩
/-- a number's variable -/
def NB (w : World) (b : Nat) (ad : Option Addr) (ln cp : Nat) : Prop := w.heap[b]? = some (.cells #[.bool false, .slice ad ln cp] 25 (0, 0))
theorem NB.lt {w : World} {b : Nat} {ad : Option Addr} {ln cp : Nat} (h : NB w b ad ln cp) : b < w.heap.size := lt_of_block h
theorem NB.grown {w w' : World} {b m : Nat} {ad : Option Addr} {ln cp : Nat} (h : NB w b ad ln cp) (k : w.grownBy w' (some m)) (hm : b ≠ m) : NB w' b ad ln cp := (k.block b h.lt fun e => hm (Option.some.inj e)).trans h
theorem NB.below {w w' : World} {b : Nat} {ad : Option Addr} {ln cp : Nat} (h : NB w b ad ln cp) (k : Below w.heap.size w w') : NB w' b ad ln cp := (k.block b h.lt).trans h
theorem NB.c0 {w : World} {b : Nat} {ad : Option Addr} {ln cp : Nat} (h : NB w b ad ln cp) : w.cell? ⟨b, 0, none⟩ = some (.bool false) := cell_of_row w b 0 _ _ (0, 0) h
theorem NB.c1 {w : World} {b : Nat} {ad : Option Addr} {ln cp : Nat} (h : NB w b ad ln cp) : w.cell? ⟨b, 1, none⟩ = some (.slice ad ln cp) := cell_of_row w b 1 _ _ (0, 0) h
set_option maxRecDepth 100000 in
set_option maxHeartbeats 3200000 in
theorem multiple_step {X : Rx} {n : Nat} (hO : Rd4 X 208 11 n) {w : World} {p : Nat} {r : Res} (hS : X.S w p) (hp : p < X.xs.length) (hk1 : (X.xs[p]).d.kind = 1)
  (hG : (if hd (rem X.xs (p + 1)) = wd 6 then th (Gr X.e n 11 [] (rem X.xs (p + 1)).tail) fun u q => some (.inr (nd ⟨6, ⟨#[]⟩, [], false, cl (X.xs[p]).d.num⟩ [u], q)) else some (.inr (nd ⟨1, ⟨#[]⟩, [], false, cl (X.xs[p]).d.num⟩ [], rem X.xs (p + 1)))) = some r) :
  Calls Tryz.prog 214 #[X.ptr] w (GP X w r) := by
 have b0 := below_alloc w (.cells #[.int .i64 0, .string ⟨#[]⟩, .slice none 0 0, .bool false, .slice none 0 0, .slice none 0 0] 28)
 have y := vb_zero w
 have hbr := hS.lt
 have hb2 : w.heap.size ≠ X.br := by omega
 have hS0 := hide hS
 replace hS := hS.below b0
 have hra : w.heap.size < (w.alloc (.cells #[.int .i64 0, .string ⟨#[]⟩, .slice none 0 0, .bool false, .slice none 0 0, .slice none 0 0] 28)).heap.size := by simp
 have hta := hide (take_n hS (k := 1) (by decide))
 have hg0 := hide (gb_of (m := X.br) b0)
 clear b0
 go_enter Tryz.func214, Tryz.ntmps214
 go_wp2_with fail
 generalize w.alloc (.cells #[.int .i64 0, .string ⟨#[]⟩, .slice none 0 0, .bool false, .slice none 0 0, .slice none 0 0] 28) = wa at *
 clear hS
 refine hta.out.mono ?_
 rintro en w1 ⟨g1, ⟨hp1, hkd, rfl, hS1⟩ | ⟨hn, hpan⟩⟩
 ·have y1 := y.grown g1 hb2
  have hg1 := hide (gbb hg0.out g1)
  have hwa1 := g1.size
  have hfd := fd2 (X.xs[p]).d.kind (X.xs[p]).d.text (X.xs[p]).ad (X.xs[p]).len (X.xs[p]).cap (X.xs[p]).d.at'
  unfold tokV
  have hxm : X.xs[p] ∈ X.xs := List.getElem_mem hp
  clear hta hg0 y g1 hkd hk1
  generalize X.xs[p] = x at *
  have b2 := below_alloc w1 (.cells #[.bool false, .slice x.ad x.len x.cap] 25)
  have z2 : NB _ w1.heap.size _ _ _ := heap_alloc_new w1 (.cells #[.bool false, .slice x.ad x.len x.cap] 25)
  have y2 := y1.below b2
  have hS2 := hS1.below b2
  have hg2 := hide (gbb hg1.out (gb_of b2))
  have hwa2 := Nat.le_trans hwa1 b2.size
  have hzy : w.heap.size < w1.heap.size := y1.lt
  have cw := hS2.wo.cell (k := 6) (by decide)
  have hps := hide (passes_n hS2 (wd_ne (k := 6) (by decide) (by decide)))
  clear y1 hS1 hg1 b2
  go_wp2_with fail
  generalize w1.alloc (.cells #[.bool false, .slice x.ad x.len x.cap] 25) = w2 at *
  generalize w1.heap.size = bt at *
  clear cw hS2
  refine hps.out.mono ?_
  rintro en w3 ⟨g3, ⟨he, rfl, hS3⟩ | ⟨he, rfl, hS3⟩⟩
  ·rw [if_pos he, rem_tail] at hG
   have hbt : bt ≠ X.br := by omega
   have z3 := z2.grown g3 hbt
   have y3 := y2.grown g3 hb2
   have hg3 := hide (gbb hg2.out g3)
   have hwa3 := Nat.le_trans hwa2 g3.size
   clear hps hg2 z2 y2 g3 he hfd
   have hSS : Hid (∀ w', w3.grownBy w' (some X.br) → w'.cell? ⟨bt, 0, none⟩ = some (.bool false) ∧ w'.cell? ⟨bt, 1, none⟩ = some (.slice x.ad x.len x.cap)) := hide fun w' g => by
    have z := z3.grown g hbt
    exact ⟨z.c0, z.c1⟩
   go_wp2_with fail
   refine wp_region_held_drew (S := (fun w' => w'.cell? ⟨bt, 0, none⟩ = some (.bool false) ∧ w'.cell? ⟨bt, 1, none⟩ = some (.slice x.ad x.len x.cap))) (by kernel_rfl) (hSS.out _ (gb_of (grow_drew (Below.refl _ _)))) (fun hHeld => ?_)
   show wpAnyH _ _ _ _ _ 6 _ _ _
   have kd := grow_drew (Below.refl w3.heap.size w3)
   have hS4 := hS3.below kd
   have hgd := hide (gb_of (m := X.br) kd)
   generalize w3.drew = wd3 at *
   refine wpAnyH_take (i := 0) (oi := ⟨some 11, _, _, _, _, _⟩) (v := ?_) rfl (by kernel_rfl) (by kernel_rfl) (by kernel_rfl) (fun _ _ _ h => by first | exact h | cases h.1) (Or.inl ⟨by rfl, ?_⟩) (by assumption) ?_
   rotate_left
   ·intro wq hSw; (try dsimp only at hSw); go_simp; (try with_reducible rfl)
   (try simp only [Act.put, List.setIfInBounds_toArray, List.set_cons_zero, List.set_cons_succ])
   refine wpAnyH_take (i := 1) (oi := ⟨some 12, _, _, _, _, _⟩) (v := ?_) rfl (by kernel_rfl) (by kernel_rfl) (by kernel_rfl) (fun _ _ _ h => by first | exact h | cases h.1) (Or.inl ⟨by rfl, ?_⟩) (by assumption) ?_
   rotate_left
   ·intro wq hSw; (try dsimp only at hSw); go_simp; (try with_reducible rfl)
   (try simp only [Act.put, List.setIfInBounds_toArray, List.set_cons_zero, List.set_cons_succ])
   refine wpAnyH_ready (rs := [2]) (by kernel_rfl) (by simp) ?_
   refine AllReadyH.cons (o := ⟨some 13, _, _, _, _, _⟩) rfl (fun K hK => ?_) AllReadyH.nil
   go_simp
   rcases th_some hG with ⟨c, h5, rfl⟩ | ⟨u, us, h5, h6⟩
   ·refine Calls.mono (hO _ (p + 1 + 1) _ hS4 h5) ?_
    rintro en w4 ⟨g4, hpan⟩
    unfold Pan at hpan
    subst hpan
    exact ⟨rfl, gbb (gbb hg3.out hgd.out) g4, rfl⟩
   ·refine Calls.mono (hO _ (p + 1 + 1) _ hS4 h5) ?_
    rintro en w4 ⟨g4, x2, q2, rfl, hx4, rfl, hS5⟩
    obtain rfl := Option.some.inj h6
    have hgd4 := gbb hgd.out g4
    have y4 := y3.grown hgd4 hb2
    have z4 := z3.grown hgd4 hbt
    have hg4 := hide (gbb hg3.out hgd4)
    (try go_wp2_with fail)
    refine hK.out _ _ ?_ ?_
    ·(try dsimp only); exact hSS.out _ hgd4
    clear hK K hHeld; intro hHeld
    (try simp only [Act.put, List.setIfInBounds_toArray, List.set_cons_zero, List.set_cons_succ])
    refine wpAnyH_ready (rs := [3]) (by kernel_rfl) (by simp) ?_
    refine AllReadyH.cons (o := ⟨some 14, _, _, _, _, _⟩) rfl (fun K hK => ?_) AllReadyH.nil
    have b5 := below_alloc w4 (.cells #[.int .i64 x2.k, .string x2.nm, .slice x2.na x2.nn x2.nc, .bool x2.s, .slice x2.a x2.l x2.c, .slice x2.ka x2.kn x2.kc] 28)
    have hb5 := heap_alloc_new w4 (.cells #[.int .i64 x2.k, .string x2.nm, .slice x2.na x2.nn x2.nc, .bool x2.s, .slice x2.a x2.l x2.c, .slice x2.ka x2.kn x2.kc] 28)
    have y5 := y4.below b5
    have z5 := z4.below b5
    have hxy := rt_below hx4 b5
    have hS6 := hS5.below b5
    have hg5 := hide (gbb hg4.out (gb_of b5))
    go_simp
    refine hK.out _ _ ?_ ?_
    ·(try dsimp only); exact ⟨z5.c0, z5.c1⟩
    clear hK K hHeld; intro hHeld
    (try simp only [Act.put, List.setIfInBounds_toArray, List.set_cons_zero, List.set_cons_succ])
    have hx6 : Rt (X.G wa) _ x2 u := hxy.imp fun b hb => hb.imp id fun h => Nat.le_trans (Nat.le_trans hwa3 kd.size) h
    have hbn : wa.heap.size ≤ w4.heap.size := Nat.le_trans hwa3 hgd4.size
    generalize w4.alloc (.cells #[.int .i64 x2.k, .string x2.nm, .slice x2.na x2.nn x2.nc, .bool x2.s, .slice x2.a x2.l x2.c, .slice x2.ka x2.kn x2.kc] 28) = w5 at *
    generalize w4.heap.size = bk at *
    refine wpAnyH_ready (rs := [4]) (by kernel_rfl) (by simp) ?_
    refine AllReadyH.cons (o := ⟨some 15, _, _, _, _, _⟩) rfl (fun K hK => ?_) AllReadyH.nil
    go_simp
    refine hK.out _ _ ?_ ?_
    ·(try dsimp only); exact ⟨z5.c0, z5.c1⟩
    clear hK K hHeld; intro hHeld
    (try simp only [Act.put, List.setIfInBounds_toArray, List.set_cons_zero, List.set_cons_succ])
    refine wpAnyH_ready (rs := [5]) (by kernel_rfl) (by simp) ?_
    refine AllReadyH.cons (o := ⟨none, _, _, _, _, _⟩) rfl (fun K hK => ?_) AllReadyH.nil
    have q0 := y5.c0
    have f0 := y5.f 0
    have q1 := y5.c1
    have f1 := y5.f 1
    have q2' := y5.c2
    have f2 := y5.f 2
    have q3 := y5.c3
    have f3 := y5.f 3
    have q4 := y5.c4
    have f4 := y5.f 4
    have q5 := y5.c5
    have f5 := y5.f 5
    have ho := v_only w5 w.heap.size ⟨6, ⟨#[]⟩, none, 0, 0, false, x.ad, x.len, x.cap, some ⟨bk, 0, none⟩, 1, 1⟩
    have z6 : NB _ bt x.ad x.len x.cap := (ho.block bt (by omega)).trans z5
    go_simp
    refine hK.out _ _ ?_ ?_
    ·(try dsimp only); exact ⟨z6.c0, z6.c1⟩
    clear hK K hHeld; intro hHeld
    (try simp only [Act.put, List.setIfInBounds_toArray, List.set_cons_zero, List.set_cons_succ])
    refine wpAnyH_done (by kernel_rfl) ?_ _
    clear q0 q1 q2' q3 q4 q5 f0 f1 f2 f3 f4 f5
    go_wp2
    refine bodyPost_ret (results_cell_row rfl _ _ w.heap.size 28 _ (0, 0) _ rfl (vb_set y5 ⟨6, ⟨#[]⟩, none, 0, 0, false, x.ad, x.len, x.cap, some ⟨bk, 0, none⟩, 1, 1⟩) Tryz.underlying28 rfl (by kernel_rfl)) rfl ?_
    exact gp_ret hS0.out hra hg5.out (rt_one (y := ⟨6, ⟨#[]⟩, none, 0, 0, false, x.ad, x.len, x.cap, some ⟨bk, 0, none⟩, 1, 1⟩) hb5 (.inr hbn) hx6 (rl_n (hS6.ws.mag x hxm) (fun b h => .inl h) 6 _ 1 1) rfl rfl) hS6
  ·rw [if_neg he] at hG
   obtain rfl := Option.some.inj hG
   have hbt : bt ≠ X.br := by omega
   have z3 := z2.grown g3 hbt
   have y3 := y2.grown g3 hb2
   have hg3 := hide (gbb hg2.out g3)
   clear hps hg2 z2 y2 g3 hG he hfd
   have q0 := y3.c0
   have f0 := y3.f 0
   have q1 := y3.c1
   have f1 := y3.f 1
   have q2' := y3.c2
   have f2 := y3.f 2
   have q3 := y3.c3
   have f3 := y3.f 3
   have q4 := y3.c4
   have f4 := y3.f 4
   have q5 := y3.c5
   have f5 := y3.f 5
   have r0 := z3.c0
   have r1 := z3.c1
   have hfin := hide (vb_set y3 ⟨1, ⟨#[]⟩, none, 0, 0, false, x.ad, x.len, x.cap, none, 0, 0⟩)
   have hres := hide (gp_ret hS0.out hra hg3.out (rt_mk (x := ⟨1, ⟨#[]⟩, none, 0, 0, false, x.ad, x.len, x.cap, none, 0, 0⟩) (ks := []) (rl_n (hS3.ws.mag x hxm) (fun b h => .inl h) 1 _ 0 0) ⟨rfl, .inl rfl⟩) hS3)
   clear z3 y3
   go_wp2
   refine bodyPost_ret (results_cell_row rfl _ _ w.heap.size 28 _ (0, 0) _ rfl hfin.out Tryz.underlying28 rfl (by kernel_rfl)) rfl ?_
   exact hres.out
 ·exact absurd (show hk (rem X.xs p) = 1 by rw [rem_cons hp]; exact hk1) hn
end Sx
end Go.Proofs.YtgpaajolcpgeaaaGreatDoor

namespace Go.Proofs.YtgpaajolcpgeaaaGreatDoor
open Go.RowKit
namespace Sx

set_option maxRecDepth 100000 in
set_option maxHeartbeats 3200000 in
theorem operand_step {X : Rx} {n : Nat} (hsh : Sht X.xs) (hO : Rd4 X 208 11 n) (hT : Rd4 X 202 9 n) : Rd4 X 208 11 (n + 1) := by
 intro w p r hS hG
 have hG : (if hd (rem X.xs p) = wd 3 then th (Gr X.e n 11 [] (rem X.xs p).tail) fun t r => some (.inr (nd (lk 3) [t], r))
  else if hd (rem X.xs p) = opn then th (Gr X.e n 9 [] (rem X.xs p).tail) fun t r => if hd r = cls' then some (.inr (t, r.tail)) else some (.inl (bad X.e r))
  else if hk (rem X.xs p) = 1 then
   match rem X.xs p with
   | [] => none
   | t :: r => if hd r = wd 6 then th (Gr X.e n 11 [] r.tail) fun u q => some (.inr (nd ⟨6, ⟨#[]⟩, [], false, cl t.num⟩ [u], q)) else some (.inr (nd ⟨1, ⟨#[]⟩, [], false, cl t.num⟩ [], r))
  else if hk (rem X.xs p) = 2 then some (.inr (nd ⟨2, hd (rem X.xs p), [], false, []⟩ [], (rem X.xs p).tail))
  else some (.inl (bad X.e (rem X.xs p)))) = some r := hG
 have b0 := below_alloc w (.cells #[.int .i64 0, .string ⟨#[]⟩, .slice none 0 0, .bool false, .slice none 0 0, .slice none 0 0] 28)
 have y := vb_zero w
 have hbr := hS.lt
 have hb2 : w.heap.size ≠ X.br := by omega
 have hS0 := hide hS
 replace hS := hS.below b0
 have hra : w.heap.size < (w.alloc (.cells #[.int .i64 0, .string ⟨#[]⟩, .slice none 0 0, .bool false, .slice none 0 0, .slice none 0 0] 28)).heap.size := by simp
 have cw := hS.wo.cell (k := 3) (by decide)
 have hps := hide (passes_n hS (wd_ne (k := 3) (by decide) (by decide)))
 have hg0 := hide (gb_of (m := X.br) b0)
 clear b0
 go_enter Tryz.func208, Tryz.ntmps208
 go_wp2_with fail
 generalize w.alloc (.cells #[.int .i64 0, .string ⟨#[]⟩, .slice none 0 0, .bool false, .slice none 0 0, .slice none 0 0] 28) = wa at *
 clear cw hS
 refine hps.out.mono ?_
 rintro en w1 ⟨g1, ⟨he, rfl, hS1⟩ | ⟨he, rfl, hS1⟩⟩
 ·rw [if_pos he, rem_tail] at hG
  have y1 := y.grown g1 hb2
  have hg1 := hide (gbb hg0.out g1)
  have hwa1 := g1.size
  clear hps hg0 y g1 he
  rcases th_some hG with ⟨c, h1, rfl⟩ | ⟨t, ts, h1, h2⟩
  ·have hc := hide (hO _ _ _ hS1 h1)
   clear hG h1 hO hT hS1
   go_wp2_with fail
   refine hc.out.mono ?_
   rintro en w2 ⟨g2, hpan⟩
   unfold Pan at hpan
   subst hpan
   exact ⟨rfl, gbb hg1.out g2, rfl⟩
  ·have hc := hide (hO _ _ _ hS1 h1)
   clear hG h1 hO hT hS1
   go_wp2_with fail
   refine hc.out.mono ?_
   rintro en w2 ⟨g2, x, q, rfl, hx, rfl, hS2⟩
   obtain rfl := Option.some.inj h2
   have y2 := y1.grown g2 hb2
   have b3 := below_alloc w2 (.cells #[.int .i64 x.k, .string x.nm, .slice x.na x.nn x.nc, .bool x.s, .slice x.a x.l x.c, .slice x.ka x.kn x.kc] 28)
   have hb3 := heap_alloc_new w2 (.cells #[.int .i64 x.k, .string x.nm, .slice x.na x.nn x.nc, .bool x.s, .slice x.a x.l x.c, .slice x.ka x.kn x.kc] 28)
   have y3 := y2.below b3
   have hx3 := rt_below (g_le hwa1 hx) b3
   have hS3 := hS2.below b3
   have hg3 := hide (gbb (gbb hg1.out g2) (gb_of b3))
   have hwb : wa.heap.size ≤ w2.heap.size := Nat.le_trans hwa1 g2.size
   have hres := hide (gp_ret hS0.out hra hg3.out (rt_one (y := ⟨3, ⟨#[]⟩, none, 0, 0, false, none, 0, 0, some ⟨w2.heap.size, 0, none⟩, 1, 1⟩) hb3 (.inr hwb) hx3 (rl_k _ _ 3 _ 1 1) rfl rfl) hS3)
   have hfin := hide (vb_set y3 ⟨3, ⟨#[]⟩, none, 0, 0, false, none, 0, 0, some ⟨w2.heap.size, 0, none⟩, 1, 1⟩)
   have q0 := y3.c0
   have f0 := y3.f 0
   have q1 := y3.c1
   have f1 := y3.f 1
   have q2' := y3.c2
   have f2 := y3.f 2
   have q3 := y3.c3
   have f3 := y3.f 3
   have q4 := y3.c4
   have f4 := y3.f 4
   have q5 := y3.c5
   have f5 := y3.f 5
   clear hc y3 y2 y1 g2 hx b3 hb3 hx3 hS3 hS2 hg1 hg3
   go_wp2
   refine bodyPost_ret (results_cell_row rfl _ _ w.heap.size 28 _ (0, 0) _ rfl hfin.out Tryz.underlying28 rfl (by kernel_rfl)) rfl ?_
   exact hres.out
 ·rw [if_neg he] at hG
  have y1 := y.grown g1 hb2
  have hg1 := hide (gbb hg0.out g1)
  have hwa1 := g1.size
  have hps1 : Hid (Calls Tryz.prog 111 #[.pointer (some ⟨X.br, 0, none⟩), .string ⟨#[40]⟩] w1 fun en w' => PsP X.F w1 X.br X.va X.vn X.vc X.e X.xs p ⟨#[40]⟩ en w') := hide (passes_n hS1 (by decide))
  clear hps hg0 y g1 he hS1
  go_wp2_with fail
  refine hps1.out.mono ?_
  rintro en w2 ⟨g2, ⟨he, rfl, hS2⟩ | ⟨he, rfl, hS2⟩⟩
  ·rw [if_pos (show hd (rem X.xs p) = opn from he), rem_tail] at hG
   have y2 := y1.grown g2 hb2
   have hg2 := hide (gbb hg1.out g2)
   have hwa2 := Nat.le_trans hwa1 g2.size
   clear hps1 hg1 y1 g2 he
   rcases th_some hG with ⟨c, h1, rfl⟩ | ⟨t, ts, h1, h2⟩
   ·have hc := hide (hT _ _ _ hS2 h1)
    clear hG h1 hO hT hS2
    go_wp2_with fail
    refine hc.out.mono ?_
    rintro en w3 ⟨g3, hpan⟩
    unfold Pan at hpan
    subst hpan
    exact ⟨rfl, gbb hg2.out g3, rfl⟩
   ·have hc := hide (hT _ _ _ hS2 h1)
    clear hG h1 hO hT hS2
    go_wp2_with fail
    refine hc.out.mono ?_
    rintro en w3 ⟨g3, x, q, rfl, hx, rfl, hS3⟩
    have y3 := y2.grown g3 hb2
    have b4 := below_alloc w3 (.cells #[.int .i64 x.k, .string x.nm, .slice x.na x.nn x.nc, .bool x.s, .slice x.a x.l x.c, .slice x.ka x.kn x.kc] 28)
    have z4 := vb_new w3 x
    have y4 := y3.below b4
    have hx4 := rt_below (g_le hwa2 hx) b4
    have hS4 := hS3.below b4
    have hg4 := hide (gbb (gbb hg2.out g3) (gb_of b4))
    have hlt : X.br < w3.heap.size := hS3.lt
    have hmu : Hid (Calls Tryz.prog 192 #[.pointer (some ⟨X.br, 0, none⟩), .string ⟨#[41]⟩] _ fun en w' => MuP X.F _ X.br X.va X.vn X.vc X.e X.xs q ⟨#[41]⟩ en w') := hide (must_n hS4 (by decide))
    have hba : X.br < wa.heap.size := by omega
    clear hc y3 y2 g3 hx b4 hS4 hS3 hg2
    go_wp2_with fail
    generalize w3.alloc (.cells #[.int .i64 x.k, .string x.nm, .slice x.na x.nn x.nc, .bool x.s, .slice x.a x.l x.c, .slice x.ka x.kn x.kc] 28) = w4 at *
    generalize w3.heap.size = bt at *
    refine hmu.out.mono ?_
    rintro en w5 ⟨g5, ⟨hd5, hp5, rfl, hS5⟩ | ⟨hd5, hpan⟩⟩
    ·rw [if_pos (show hd (rem X.xs q) = cls' from hd5), rem_tail] at h2
     obtain rfl := Option.some.inj h2
     have y5 := y4.grown g5 hb2
     have z5 := z4.grown g5 (by omega)
     have hres := hide (gp_ret hS0.out hra (gbb hg4.out g5) (rt_gb hx4 hba g5) hS5)
     have hfin := hide (vb_set y5 x)
     have q0 := y5.c0
     have f0 := y5.f 0
     have q1 := y5.c1
     have f1 := y5.f 1
     have q2' := y5.c2
     have f2 := y5.f 2
     have q3 := y5.c3
     have f3 := y5.f 3
     have q4 := y5.c4
     have f4 := y5.f 4
     have q5 := y5.c5
     have f5 := y5.f 5
     have r0 := z5.c0
     have r1 := z5.c1
     have r2 := z5.c2
     have r3 := z5.c3
     have r4 := z5.c4
     have r5 := z5.c5
     clear hmu y5 y4 z5 z4 g5 hx4 hS5 hg4 hd5
     go_wp2
     refine bodyPost_ret (results_cell_row rfl _ _ w.heap.size 28 _ (0, 0) _ rfl hfin.out Tryz.underlying28 rfl (by kernel_rfl)) rfl ?_
     exact hres.out
    ·unfold Pan at hpan
     subst hpan
     rw [if_neg (show ¬ hd (rem X.xs q) = cls' from hd5)] at h2
     obtain rfl := Option.some.inj h2
     exact ⟨rfl, gbb hg4.out g5, rfl⟩
  ·rw [if_neg (show ¬ hd (rem X.xs p) = opn from he)] at hG
   have y2 := y1.grown g2 hb2
   have hg2 := hide (gbb hg1.out g2)
   have hwa2 := Nat.le_trans hwa1 g2.size
   have hnx := hide (next_n hS2 0 (by decide))
   obtain ⟨kd, t1, ad, ln, cp, at', e1, e2, -, -⟩ := tkV_is X.xs p
   rw [Nat.add_zero, e1] at hnx
   replace e2 := hide e2
   have hfd := fd0 kd t1 ad ln cp at'
   clear hps1 hg1 y1 g2 he e1
   go_wp2_with fail
   refine hnx.out.mono ?_
   rintro en w3 ⟨rfl, k3⟩
   have y3 := y2.below k3
   have hS3 := hS2.below k3
   have hg3 := hide (gbb hg2.out (gb_of k3))
   have hwa3 := Nat.le_trans hwa2 k3.size
   clear hnx hg2 y2 hS2 k3
   by_cases hkd : kd = 1
   ·subst hkd
    rw [if_pos e2.out.symm] at hG
    have hp : p < X.xs.length := by
     by_cases hp : p < X.xs.length
     ·exact hp
     ·have := e2.out
      rw [rem_nil (by omega)] at this
      cases this
    have hk1 : (X.xs[p]).d.kind = 1 := by
     have := e2.out
     rw [rem_cons hp] at this
     exact this.symm
    rw [rem_cons hp] at hG
    have hc := hide (multiple_step hO hS3 hp hk1 hG)
    clear hG hO hT hS3 hk1
    go_wp2_with fail
    refine hc.out.mono ?_
    cases r with
    | inl c =>
     rintro en w4 ⟨g4, hpan⟩
     unfold Pan at hpan
     subst hpan
     exact ⟨rfl, gbb hg3.out g4, rfl⟩
    | inr tr =>
     obtain ⟨t, ts⟩ := tr
     rintro en w4 ⟨g4, x, q, rfl, hx, rfl, hS4⟩
     have y4 := y3.grown g4 hb2
     have hres := hide (gp_ret hS0.out hra (gbb hg3.out g4) (g_le hwa3 hx) hS4)
     have hfin := hide (vb_set y4 x)
     have q0 := y4.c0
     have f0 := y4.f 0
     have q1 := y4.c1
     have f1 := y4.f 1
     have q2' := y4.c2
     have f2 := y4.f 2
     have q3 := y4.c3
     have f3 := y4.f 3
     have q4 := y4.c4
     have f4 := y4.f 4
     have q5 := y4.c5
     have f5 := y4.f 5
     clear hc y4 y3 g4 hx hS4 hg3 hfd
     go_wp2
     refine bodyPost_ret (results_cell_row rfl _ _ w.heap.size 28 _ (0, 0) _ rfl hfin.out Tryz.underlying28 rfl (by kernel_rfl)) rfl ?_
     exact hres.out
   ·rw [if_neg (fun h => hkd (e2.out.trans h))] at hG
    have hbf : (kd == 1) = false := by simpa using hkd
    have hna := hide (name_n hS3 hsh)
    clear hO hT hS3 e2
    go_wp2_with fail
    refine hna.out.mono ?_
    rintro en w4 ⟨g4, ⟨hp, hk2, rfl, hS4⟩ | ⟨hn, hpan⟩⟩
    ·rw [rem_cons hp, if_pos (show hk ((X.xs[p]).d :: rem X.xs (p + 1)) = 2 from hk2)] at hG
     obtain rfl : (.inr (nd ⟨2, (X.xs[p]).d.text, [], false, []⟩ [], rem X.xs (p + 1)) : Res) = r := Option.some.inj hG
     have y4 := y3.grown g4 hb2
     have hres := hide (gp_ret (x := ⟨2, (X.xs[p]).d.text, none, 0, 0, false, none, 0, 0, none, 0, 0⟩) hS0.out hra (gbb hg3.out g4) (rt_mk (l := ⟨2, (X.xs[p]).d.text, [], false, []⟩) (ks := []) ⟨rfl, rfl, rfl, nmL_nil _ _ _, rd_nil _, fun b off e _ => by cases e⟩ ⟨rfl, .inl rfl⟩) hS4)
     have hfin := hide (vb_set y4 ⟨2, (X.xs[p]).d.text, none, 0, 0, false, none, 0, 0, none, 0, 0⟩)
     have q0 := y4.c0
     have f0 := y4.f 0
     have q1 := y4.c1
     have f1 := y4.f 1
     have q2' := y4.c2
     have f2 := y4.f 2
     have q3 := y4.c3
     have f3 := y4.f 3
     have q4 := y4.c4
     have f4 := y4.f 4
     have q5 := y4.c5
     have f5 := y4.f 5
     clear hna y4 y3 g4 hS4 hg3 hfd hk2 hG
     generalize (X.xs[p]).d.text = tx at *
     go_wp2
     refine bodyPost_ret (results_cell_row rfl _ _ w.heap.size 28 _ (0, 0) _ rfl hfin.out Tryz.underlying28 rfl (by kernel_rfl)) rfl ?_
     exact hres.out
    ·unfold Pan at hpan
     subst hpan
     rw [if_neg hn] at hG
     obtain rfl := Option.some.inj hG
     exact ⟨rfl, gbb hg3.out g4, rfl⟩
end Sx
end Go.Proofs.YtgpaajolcpgeaaaGreatDoor

namespace Go.Proofs.YtgpaajolcpgeaaaGreatDoor
open Go.RowKit
namespace Sx

theorem tb_grown {w w' : World} {b m : Nat} {v0 v1 v2 v3 v4 : Value} (h : TB w b v0 v1 v2 v3 v4) (k : w.grownBy w' (some m)) (hm : b ≠ m) : TB w' b v0 v1 v2 v3 v4 := (k.block b h.lt fun e => hm (Option.some.inj e)).trans h
set_option maxRecDepth 100000 in
set_option maxHeartbeats 3200000 in
theorem divides_step {X : Rx} {n : Nat} (hT : Rd4 X 202 9 n) {w : World} {p : Nat} {r : Res} (hS : X.S w p) (hp : p < X.xs.length) (hk1 : (X.xs[p]).d.kind = 1) (h15 : hd (rem X.xs (p + 1)) = wd 15)
  (hG : (if (X.xs[p]).d.num = 0 then some (.inl (11, (X.xs[p]).d.at')) else th (Gr X.e n 9 [] (rem X.xs (p + 1)).tail) fun u r => some (.inr (nd ⟨15, ⟨#[]⟩, [], false, cl (X.xs[p]).d.num⟩ [u], r))) = some r) :
  Calls Tryz.prog 201 #[X.ptr] w (GP X w r) := by
 have b0 := below_alloc w (.cells #[.int .i64 0, .string ⟨#[]⟩, .slice none 0 0, .bool false, .slice none 0 0, .slice none 0 0] 28)
 have y := vb_zero w
 have hbr := hS.lt
 have hb2 : w.heap.size ≠ X.br := by omega
 have hS0 := hide hS
 replace hS := hS.below b0
 have hra : w.heap.size < (w.alloc (.cells #[.int .i64 0, .string ⟨#[]⟩, .slice none 0 0, .bool false, .slice none 0 0, .slice none 0 0] 28)).heap.size := by simp
 have hta := hide (take_n hS (k := 1) (by decide))
 have hg0 := hide (gb_of (m := X.br) b0)
 have hzr : (X.xs[p]).len = 0 ↔ (X.xs[p]).d.num = 0 := by
  have hm := hS.ws.mag _ (List.getElem_mem hp)
  rw [← hm.2.2.2, canon_zero hm.2.2.1, ← hm.1.1, List.length_eq_zero_iff]
 clear b0
 go_enter Tryz.func201, Tryz.ntmps201
 go_wp2_with fail
 generalize w.alloc (.cells #[.int .i64 0, .string ⟨#[]⟩, .slice none 0 0, .bool false, .slice none 0 0, .slice none 0 0] 28) = wa at *
 clear hS
 refine hta.out.mono ?_
 rintro en w1 ⟨g1, ⟨hp1, hkd, rfl, hS1⟩ | ⟨hn, hpan⟩⟩
 ·have y1 := y.grown g1 hb2
  have hg1 := hide (gbb hg0.out g1)
  have hwa1 := g1.size
  unfold tokV
  have hxm : X.xs[p] ∈ X.xs := List.getElem_mem hp
  clear hta hg0 y g1 hkd hk1
  generalize X.xs[p] = x at *
  have b2 := below_alloc w1 (.cells #[.int .i64 x.d.kind, .string x.d.text, .bool false, .slice x.ad x.len x.cap, .int .i64 x.d.at'] 119)
  have z2 := tb_new w1 (.int .i64 x.d.kind) (.string x.d.text) (.bool false) (.slice x.ad x.len x.cap) (.int .i64 x.d.at')
  have y2 := y1.below b2
  have hS2 := hS1.below b2
  have hg2 := hide (gbb hg1.out (gb_of b2))
  have hwa2 := Nat.le_trans hwa1 b2.size
  have hzy : w.heap.size < w1.heap.size := y1.lt
  have cw := hS2.wo.cell (k := 15) (by decide)
  have r3 := z2.c3
  have r4 := z2.c4
  have hmu := hide (must_n hS2 (wd_ne (k := 15) (by decide) (by decide)))
  clear y1 hS1 hg1 b2
  by_cases hl0 : x.len = 0
  ·rw [if_pos (hzr.1 hl0)] at hG
   obtain rfl := Option.some.inj hG
   have hbf : ((x.len : Int) == 0) = true := by simp [hl0]
   clear hzr hmu hS2 y2 z2 cw
   replace hl0 := hide hl0
   go_wp2
   exact ⟨rfl, hg2.out, rfl⟩
  ·rw [if_neg (fun h => hl0 (hzr.2 h)), rem_tail] at hG
   have hbf : ((x.len : Int) == 0) = false := by simpa using hl0
   clear hzr hl0
   go_wp2_with fail
   generalize w1.alloc (.cells #[.int .i64 x.d.kind, .string x.d.text, .bool false, .slice x.ad x.len x.cap, .int .i64 x.d.at'] 119) = w2 at *
   generalize w1.heap.size = bt at *
   clear cw hS2 r3 r4 hbf
   refine hmu.out.mono ?_
   rintro en w3 ⟨g3, ⟨hd5, hp5, rfl, hS3⟩ | ⟨hd5, hpan⟩⟩
   ·have hbt : bt ≠ X.br := by omega
    have z3 := tb_grown z2 g3 hbt
    have y3 := y2.grown g3 hb2
    have hg3 := hide (gbb hg2.out g3)
    have hwa3 := Nat.le_trans hwa2 g3.size
    clear hmu hg2 z2 y2 g3 h15 hd5
    have hSS : Hid (∀ w', w3.grownBy w' (some X.br) → w'.cell? ⟨bt, 2, none⟩ = some (.bool false) ∧ w'.cell? ⟨bt, 3, none⟩ = some (.slice x.ad x.len x.cap)) := hide fun w' g => by
     have z := tb_grown z3 g hbt
     exact ⟨z.c2, z.c3⟩
    go_wp2_with fail
    refine wp_region_held_drew (S := (fun w' => w'.cell? ⟨bt, 2, none⟩ = some (.bool false) ∧ w'.cell? ⟨bt, 3, none⟩ = some (.slice x.ad x.len x.cap))) (by kernel_rfl) (hSS.out _ (gb_of (grow_drew (Below.refl _ _)))) (fun hHeld => ?_)
    show wpAnyH _ _ _ _ _ 7 _ _ _
    have kd := grow_drew (Below.refl w3.heap.size w3)
    have hS4 := hS3.below kd
    have hgd := hide (gb_of (m := X.br) kd)
    generalize w3.drew = wd3 at *
    refine wpAnyH_take (i := 0) (oi := ⟨some 19, _, _, _, _, _⟩) (v := ?_) rfl (by kernel_rfl) (by kernel_rfl) (by kernel_rfl) (fun _ _ _ h => by first | exact h | cases h.1) (Or.inl ⟨by rfl, ?_⟩) (by assumption) ?_
    rotate_left
    ·intro wq hSw; (try dsimp only at hSw); go_simp; (try with_reducible rfl)
    (try simp only [Act.put, List.setIfInBounds_toArray, List.set_cons_zero, List.set_cons_succ])
    refine wpAnyH_take (i := 1) (oi := ⟨some 20, _, _, _, _, _⟩) (v := ?_) rfl (by kernel_rfl) (by kernel_rfl) (by kernel_rfl) (fun _ _ _ h => by first | exact h | cases h.1) (Or.inl ⟨by rfl, ?_⟩) (by assumption) ?_
    rotate_left
    ·intro wq hSw; (try dsimp only at hSw); go_simp; (try with_reducible rfl)
    (try simp only [Act.put, List.setIfInBounds_toArray, List.set_cons_zero, List.set_cons_succ])
    refine wpAnyH_take (i := 2) (oi := ⟨some 21, _, _, _, _, _⟩) (v := ?_) rfl (by kernel_rfl) (by kernel_rfl) (by kernel_rfl) (fun _ _ _ h => by first | exact h | cases h.1) (Or.inl ⟨by rfl, ?_⟩) (by assumption) ?_
    rotate_left
    ·intro wq hSw; (try dsimp only at hSw); go_simp; (try with_reducible rfl)
    (try simp only [Act.put, List.setIfInBounds_toArray, List.set_cons_zero, List.set_cons_succ])
    refine wpAnyH_ready (rs := [3]) (by kernel_rfl) (by simp) ?_
    refine AllReadyH.cons (o := ⟨some 22, _, _, _, _, _⟩) rfl (fun K hK => ?_) AllReadyH.nil
    go_simp
    rcases th_some hG with ⟨c, h5, rfl⟩ | ⟨u, us, h5, h6⟩
    ·refine Calls.mono (hT _ (p + 1 + 1) _ hS4 h5) ?_
     rintro en w4 ⟨g4, hpan⟩
     unfold Pan at hpan
     subst hpan
     exact ⟨rfl, gbb (gbb hg3.out hgd.out) g4, rfl⟩
    ·refine Calls.mono (hT _ (p + 1 + 1) _ hS4 h5) ?_
     rintro en w4 ⟨g4, x2, q2, rfl, hx4, rfl, hS5⟩
     obtain rfl := Option.some.inj h6
     have hgd4 := gbb hgd.out g4
     have y4 := y3.grown hgd4 hb2
     have z4 := tb_grown z3 hgd4 hbt
     have hg4 := hide (gbb hg3.out hgd4)
     (try go_wp2_with fail)
     refine hK.out _ _ ?_ ?_
     ·(try dsimp only); exact hSS.out _ hgd4
     clear hK K hHeld; intro hHeld
     (try simp only [Act.put, List.setIfInBounds_toArray, List.set_cons_zero, List.set_cons_succ])
     refine wpAnyH_ready (rs := [4]) (by kernel_rfl) (by simp) ?_
     refine AllReadyH.cons (o := ⟨some 23, _, _, _, _, _⟩) rfl (fun K hK => ?_) AllReadyH.nil
     have b5 := below_alloc w4 (.cells #[.int .i64 x2.k, .string x2.nm, .slice x2.na x2.nn x2.nc, .bool x2.s, .slice x2.a x2.l x2.c, .slice x2.ka x2.kn x2.kc] 28)
     have hb5 := heap_alloc_new w4 (.cells #[.int .i64 x2.k, .string x2.nm, .slice x2.na x2.nn x2.nc, .bool x2.s, .slice x2.a x2.l x2.c, .slice x2.ka x2.kn x2.kc] 28)
     have y5 := y4.below b5
     have z5 := z4.below b5
     have hxy := rt_below hx4 b5
     have hS6 := hS5.below b5
     have hg5 := hide (gbb hg4.out (gb_of b5))
     go_simp
     refine hK.out _ _ ?_ ?_
     ·(try dsimp only); exact ⟨z5.c2, z5.c3⟩
     clear hK K hHeld; intro hHeld
     (try simp only [Act.put, List.setIfInBounds_toArray, List.set_cons_zero, List.set_cons_succ])
     have hx6 : Rt (X.G wa) _ x2 u := hxy.imp fun b hb => hb.imp id fun h => Nat.le_trans (Nat.le_trans hwa3 kd.size) h
     have hbn : wa.heap.size ≤ w4.heap.size := Nat.le_trans hwa3 hgd4.size
     generalize w4.alloc (.cells #[.int .i64 x2.k, .string x2.nm, .slice x2.na x2.nn x2.nc, .bool x2.s, .slice x2.a x2.l x2.c, .slice x2.ka x2.kn x2.kc] 28) = w5 at *
     generalize w4.heap.size = bk at *
     refine wpAnyH_ready (rs := [5]) (by kernel_rfl) (by simp) ?_
     refine AllReadyH.cons (o := ⟨some 24, _, _, _, _, _⟩) rfl (fun K hK => ?_) AllReadyH.nil
     go_simp
     refine hK.out _ _ ?_ ?_
     ·(try dsimp only); exact ⟨z5.c2, z5.c3⟩
     clear hK K hHeld; intro hHeld
     (try simp only [Act.put, List.setIfInBounds_toArray, List.set_cons_zero, List.set_cons_succ])
     refine wpAnyH_ready (rs := [6]) (by kernel_rfl) (by simp) ?_
     refine AllReadyH.cons (o := ⟨none, _, _, _, _, _⟩) rfl (fun K hK => ?_) AllReadyH.nil
     have q0 := y5.c0
     have f0 := y5.f 0
     have q1 := y5.c1
     have f1 := y5.f 1
     have q2' := y5.c2
     have f2 := y5.f 2
     have q3 := y5.c3
     have f3 := y5.f 3
     have q4 := y5.c4
     have f4 := y5.f 4
     have q5 := y5.c5
     have f5 := y5.f 5
     have ho := v_only w5 w.heap.size ⟨15, ⟨#[]⟩, none, 0, 0, false, x.ad, x.len, x.cap, some ⟨bk, 0, none⟩, 1, 1⟩
     have z6 : TB _ bt _ _ _ _ _ := (ho.block bt (by omega)).trans z5
     go_simp
     refine hK.out _ _ ?_ ?_
     ·(try dsimp only); exact ⟨z6.c2, z6.c3⟩
     clear hK K hHeld; intro hHeld
     (try simp only [Act.put, List.setIfInBounds_toArray, List.set_cons_zero, List.set_cons_succ])
     refine wpAnyH_done (by kernel_rfl) ?_ _
     clear q0 q1 q2' q3 q4 q5 f0 f1 f2 f3 f4 f5
     go_wp2
     refine bodyPost_ret (results_cell_row rfl _ _ w.heap.size 28 _ (0, 0) _ rfl (vb_set y5 ⟨15, ⟨#[]⟩, none, 0, 0, false, x.ad, x.len, x.cap, some ⟨bk, 0, none⟩, 1, 1⟩) Tryz.underlying28 rfl (by kernel_rfl)) rfl ?_
     exact gp_ret hS0.out hra hg5.out (rt_one (y := ⟨15, ⟨#[]⟩, none, 0, 0, false, x.ad, x.len, x.cap, some ⟨bk, 0, none⟩, 1, 1⟩) hb5 (.inr hbn) hx6 (rl_n (hS6.ws.mag x hxm) (fun b h => .inl h) 15 _ 1 1) rfl rfl) hS6
   ·exact absurd h15 hd5
 ·exact absurd (show hk (rem X.xs p) = 1 by rw [rem_cons hp]; exact hk1) hn
end Sx
end Go.Proofs.YtgpaajolcpgeaaaGreatDoor

namespace Go.Proofs.YtgpaajolcpgeaaaGreatDoor
open Go.RowKit
namespace Sx

/-- a tree's blocks are there -/
theorem rt_in {F : Nat → Prop} {w : World} {x : TC} {t : Tr} (h : Rt F w x t) : Rt (fun b => F b ∧ b < w.heap.size) w x t := by
 obtain ⟨n, h⟩ := h
 refine ⟨n, ?_⟩
 revert x t
 induction n with
 | zero => exact fun h => h.elim
 | succ n ih =>
  rintro x t ⟨l, ks, h1, h2, h3, h4⟩
  refine ⟨l, ks, h1, { h2 with nms := ⟨h2.nms.1, h2.nms.2.imp id fun ⟨b, off, e, hF, hl, h⟩ => ⟨b, off, e, ⟨hF, hl⟩, hl, h⟩⟩, inr := fun b off e h0 => ⟨h2.inr b off e h0, ?_⟩ }, h3, h4.imp id fun ⟨b, off, e, hF, hl, h5⟩ => ⟨b, off, e, ⟨hF, hl.lt⟩, hl, fun i hi => ?_⟩⟩
  ·obtain ⟨_, _, _, _, h6 | ⟨a0, e0, h6 | ⟨b', off', e2, hb, _⟩⟩⟩ := h2.rd
   ·rw [e] at h6
    cases h6.1
   ·omega
   ·rw [e, e2] at e0
    cases e0
    exact hb
  ·obtain ⟨y, h6, h7⟩ := h5 i hi
   exact ⟨y, h6, ih h7⟩
/-- older than the reader, or new, and not the variable -/
abbrev Rx.H (X : Rx) (s bt : Nat) : Nat → Prop := fun b => (b < X.br ∧ X.P b) ∨ (s ≤ b ∧ b ≠ bt)
theorem rt_first {X : Rx} {wa w1 : World} {x : TC} {t : Tr} (h : Rt (X.G wa) w1 x t) : Rt (X.H wa.heap.size w1.heap.size) w1 x t := (rt_in h).imp fun b ⟨h1, h2⟩ => h1.imp id fun h => ⟨h, by omega⟩
theorem rh_gb {X : Rx} {s bt : Nat} {w w' : World} {x : TC} {t : Tr} (h : Rt (X.H s bt) w x t) (hb : X.br < s) (g : w.grownBy w' (some X.br)) : Rt (X.H s bt) w' x t := h.kf (Kf.of_grown g fun h => by rcases h with h | h <;> omega)
theorem rh_only {X : Rx} {s bt : Nat} {w w' : World} {x : TC} {t : Tr} (h : Rt (X.H s bt) w x t) (hb : X.br < s) (hs : s ≤ bt) (o : Only bt w w') : Rt (X.H s bt) w' x t :=
 h.kf ⟨by rw [o.size]; exact Nat.le_refl _, fun b hF _ => o.block b (by rcases hF with h | h <;> omega)⟩
theorem rh_later {X : Rx} {s bt : Nat} {w3 w : World} {x : TC} {t : Tr} (h : Rt (X.G w3) w x t) (h1 : s ≤ w3.heap.size) (h2 : bt < w3.heap.size) : Rt (X.H s bt) w x t := h.imp fun b hb => hb.imp id fun h => ⟨Nat.le_trans h1 h, by omega⟩
theorem rh_g {X : Rx} {wa : World} {bt : Nat} {w : World} {x : TC} {t : Tr} (h : Rt (X.H wa.heap.size bt) w x t) : Rt (X.G wa) w x t := h.imp fun _ hb => hb.imp id fun h => h.1
set_option maxRecDepth 100000 in
set_option maxHeartbeats 3200000 in
theorem total_step {X : Rx} {n : Nat} (hO : ∀ m, m ≤ n → Rd4 X 208 11 m) : Rd4 X 202 9 (n + 1) := by
 intro w p r hS hG
 have hG : th (Gr X.e n 11 [] (rem X.xs p)) (fun t r => Gr X.e n 10 [t] r) = some r := hG
 have b0 := below_alloc w (.cells #[.int .i64 0, .string ⟨#[]⟩, .slice none 0 0, .bool false, .slice none 0 0, .slice none 0 0] 28)
 have y := vb_zero w
 have hbr := hS.lt
 have hb2 : w.heap.size ≠ X.br := by omega
 have hS0 := hide hS
 replace hS := hS.below b0
 have hra : w.heap.size < (w.alloc (.cells #[.int .i64 0, .string ⟨#[]⟩, .slice none 0 0, .bool false, .slice none 0 0, .slice none 0 0] 28)).heap.size := by simp
 rcases th_some hG with ⟨c, h1, rfl⟩ | ⟨t, ts, h1, h2⟩
 ·have hc := hide (hO n (Nat.le_refl _) _ p _ hS h1)
  clear hG h1 hO hS
  go_enter Tryz.func202, Tryz.ntmps202
  go_wp2_with fail
  refine hc.out.mono ?_
  rintro en w1 ⟨g1, hpan⟩
  unfold Pan at hpan
  subst hpan
  exact ⟨rfl, gbb (gb_of b0) g1, rfl⟩
 ·have hc := hide (hO n (Nat.le_refl _) _ p _ hS h1)
  have hg0 := hide (gb_of (m := X.br) b0)
  clear hG h1 hS b0
  go_enter Tryz.func202, Tryz.ntmps202
  go_wp2_with fail
  generalize w.alloc (.cells #[.int .i64 0, .string ⟨#[]⟩, .slice none 0 0, .bool false, .slice none 0 0, .slice none 0 0] 28) = wa at *
  refine hc.out.mono ?_
  rintro en w1 ⟨g1, x, q, rfl, hx, rfl, hS1⟩
  have hba : X.br < wa.heap.size := by omega
  have y1 := y.grown g1 hb2
  have hg1 := hide (gbb hg0.out g1)
  have hwa1 := g1.size
  have b2 := below_alloc w1 (.cells #[.int .i64 x.k, .string x.nm, .slice x.na x.nn x.nc, .bool x.s, .slice x.a x.l x.c, .slice x.ka x.kn x.kc] 28)
  have z2 := vb_new w1 x
  have y2 := y1.below b2
  have hS2 := hS1.below b2
  have hx2 := rt_below (rt_first hx) b2
  have hg2 := hide (gbb hg1.out (gb_of b2))
  have hwb2 := b2.size
  have hka := hide (among_n hS2 (a := 4) (n := 1) (by decide) (by decide))
  clear hc hg0 y g1 hg1 y1 hS1 hx b2
  go_wp2_with fail
  generalize w1.alloc (.cells #[.int .i64 x.k, .string x.nm, .slice x.na x.nn x.nc, .bool x.s, .slice x.a x.l x.c, .slice x.ka x.kn x.kc] 28) = w2 at *
  generalize w1.heap.size = bt at *
  refine hka.out.mono ?_
  rintro en w3 ⟨g3, rfl, hS3, -⟩
  have hbt : bt ≠ X.br := by omega
  have z3 := z2.grown g3 hbt
  have y3 := y2.grown g3 hb2
  have hx3 := rh_gb hx2 hba g3
  have hg3 := hide (gbb hg2.out g3)
  clear hka hg2 y2 z2 hx2 g3 hS2 hwb2
  go_wp2_with fail
  go_loopg [4] n (fun k v wr => ∃ (t : Tr) (x : TC) (q : Nat), k ≤ n ∧ Hid (Gr X.e k 10 [t] (rem X.xs q) = some r) ∧ v = .int .i64 ((amo 4 2 (hd (rem X.xs q)) : Nat) : Int) ∧ Hid (X.S wr (if amo 4 2 (hd (rem X.xs q)) = 0 then q else q + 1)) ∧ Hid (VB wr bt x) ∧ Hid (VB wr w.heap.size tz) ∧ Hid (Rt (X.H wa.heap.size bt) wr x t) ∧ Hid (w.grownBy wr (some X.br)))
  case atStart => exact ⟨t, x, q, Nat.le_refl _, hide h2, rfl, hide hS3, hide z3, hide y3, hide hx3, hg3⟩
  case round =>
   clear hx3 y3 z3 hg3 hS3 h2
   obtain ⟨t, x, q, hkn, hG, rfl, hS3, z3, y3, hx3, hg3⟩ := hrel
   cases gk with
   | zero => cases hG.out
   | succ m =>
    have hG : (if amo 4 2 (hd (rem X.xs q)) ≠ 0 then th (Gr X.e m 11 [] (rem X.xs q).tail) fun u r => Gr X.e m 10 [nd (lk (amo 4 2 (hd (rem X.xs q)))) ([t] ++ [u])] r else some (.inr (row 4 [t], rem X.xs q))) = some r := hG.out
    generalize amo 4 2 (hd (rem X.xs q)) = kn at *
    by_cases hk0 : kn = 0
    ·rw [if_neg (by simp [hk0])] at hG
     obtain rfl : (.inr (t, rem X.xs q) : Res) = r := Option.some.inj hG
     rw [if_pos hk0] at hS3
     have hbf : ((kn : Int) != 0) = false := by simp [hk0]
     have hfin := hide (vb_set y3.out x)
     have hres := hide (gp_ret hS0.out hra hg3.out (rh_g hx3.out) hS3.out)
     replace z3 := z3.out
     replace y3 := y3.out
     have q0 := y3.c0
     have f0 := y3.f 0
     have q1 := y3.c1
     have f1 := y3.f 1
     have q2' := y3.c2
     have f2 := y3.f 2
     have q3 := y3.c3
     have f3 := y3.f 3
     have q4 := y3.c4
     have f4 := y3.f 4
     have q5 := y3.c5
     have f5 := y3.f 5
     have r0 := z3.c0
     have r1 := z3.c1
     have r2 := z3.c2
     have r3 := z3.c3
     have r4 := z3.c4
     have r5 := z3.c5
     clear z3 y3 hx3 hg3 hS3 hG hk0 hO
     go_wp2
     refine bodyPost_ret (results_cell_row rfl _ _ w.heap.size 28 _ (0, 0) _ rfl hfin.out Tryz.underlying28 rfl (by kernel_rfl)) rfl ?_
     exact hres.out
    ·rw [if_pos hk0, rem_tail] at hG
     rw [if_neg hk0] at hS3
     have hbf : ((kn : Int) != 0) = true := by simpa using hk0
     replace z3 := z3.out
     replace y3 := y3.out
     replace hx3 := hx3.out
     replace hS3 := hS3.out
     have hwar : wa.heap.size ≤ wr.heap.size := by have := z3.lt; omega
     go_wp2_with fail
     refine wp_region_held_drew (S := (fun _ => True)) (by kernel_rfl) trivial (fun hHeld => ?_)
     show wpAnyH _ _ _ _ _ 7 _ _ _
     have kd := grow_drew (Below.refl wr.heap.size wr)
     have hS4 := hS3.below kd
     have hgd := hide (gb_of (m := X.br) kd)
     have zd := z3.below kd
     generalize wr.drew = wd3 at *
     refine wpAnyH_take (i := 0) (oi := ⟨some 13, _, _, _, _, _⟩) (v := ?_) rfl (by kernel_rfl) (by kernel_rfl) (by kernel_rfl) (fun _ _ _ h => by first | exact h | cases h.1) (Or.inl ⟨by rfl, ?_⟩) (by assumption) ?_
     rotate_left
     ·intro wq hSw; (try dsimp only at hSw); go_simp; (try with_reducible rfl)
     (try simp only [Act.put, List.setIfInBounds_toArray, List.set_cons_zero, List.set_cons_succ])
     refine wpAnyH_take (i := 2) (oi := ⟨some 15, _, _, _, _, _⟩) (v := ?_) rfl (by kernel_rfl) (by kernel_rfl) (by kernel_rfl) (fun _ _ _ h => by first | exact h | cases h.1) (Or.inl ⟨by rfl, ?_⟩) (by assumption) ?_
     rotate_left
     ·intro wq hSw; (try dsimp only at hSw); go_simp; (try with_reducible rfl)
     (try simp only [Act.put, List.setIfInBounds_toArray, List.set_cons_zero, List.set_cons_succ])
     refine wpAnyH_ready (rs := [1, 3]) (by kernel_rfl) (by simp) ?_
     refine AllReadyH.cons (o := ⟨some 14, _, _, _, _, _⟩) rfl (fun K hK => ?_) (AllReadyH.cons (o := ⟨some 16, _, _, _, _, _⟩) rfl (fun K hK => ?_) AllReadyH.nil)
     ·have r0 := zd.c0
      have r1 := zd.c1
      have r2' := zd.c2
      have r3 := zd.c3
      have r4 := zd.c4
      have r5 := zd.c5
      go_simp
      refine hK.out _ _ ?_ ?_
      ·trivial
      clear hK K hHeld; intro hHeld
      (try simp only [Act.put, List.setIfInBounds_toArray, List.set_cons_zero, List.set_cons_succ])
      clear r0 r1 r2' r3 r4 r5
      refine wpAnyH_ready (rs := [3]) (by kernel_rfl) (by simp) ?_
      refine AllReadyH.cons (o := ⟨some 16, _, _, _, _, _⟩) rfl (fun K hK => ?_) AllReadyH.nil
      go_simp
      rcases th_some hG with ⟨c, h5, rfl⟩ | ⟨u, us, h5, h6⟩
      ·refine Calls.mono (hO m (by omega) _ (q + 1) _ hS4 h5) ?_
       rintro en w4 ⟨g4, hpan⟩
       unfold Pan at hpan
       subst hpan
       exact ⟨rfl, gbb (gbb hg3.out hgd.out) g4, rfl⟩
      ·refine Calls.mono (hO m (by omega) _ (q + 1) _ hS4 h5) ?_
       rintro en w4 ⟨g4, x2, q2, rfl, hx4, rfl, hS5⟩
       have hgd4 := gbb hgd.out g4
       have y4 := y3.grown hgd4 hb2
       have z4 := z3.grown hgd4 hbt
       have hx5 := rh_gb hx3 hba hgd4
       have hx6 := rh_later hx4 (s := wa.heap.size) (bt := bt) (Nat.le_trans hwar kd.size) (Nat.lt_of_lt_of_le z3.lt kd.size)
       have hbn : X.H wa.heap.size bt w4.heap.size := .inr ⟨Nat.le_trans hwar hgd4.size, by have := z4.lt; omega⟩
       have hg4 := hide (gbb hg3.out hgd4)
       (try go_wp2_with fail)
       refine hK.out _ _ ?_ ?_
       ·trivial
       clear hK K hHeld; intro hHeld
       (try simp only [Act.put, List.setIfInBounds_toArray, List.set_cons_zero, List.set_cons_succ])
       clear hgd4 g4 kd hx4 y3 z3 hx3 hg3 hS3 hS4 hgd zd
       refine wpAnyH_ready (rs := [4]) (by kernel_rfl) (by simp) ?_
       refine AllReadyH.cons (o := ⟨some 17, _, _, _, _, _⟩) rfl (fun K hK => ?_) AllReadyH.nil
       have b5 := below_alloc w4 (.cells #[.int .i64 x.k, .string x.nm, .slice x.na x.nn x.nc, .bool x.s, .slice x.a x.l x.c, .slice x.ka x.kn x.kc, .int .i64 x2.k, .string x2.nm, .slice x2.na x2.nn x2.nc, .bool x2.s, .slice x2.a x2.l x2.c, .slice x2.ka x2.kn x2.kc] 28)
       have hb5 := heap_alloc_new w4 (.cells #[.int .i64 x.k, .string x.nm, .slice x.na x.nn x.nc, .bool x.s, .slice x.a x.l x.c, .slice x.ka x.kn x.kc, .int .i64 x2.k, .string x2.nm, .slice x2.na x2.nn x2.nc, .bool x2.s, .slice x2.a x2.l x2.c, .slice x2.ka x2.kn x2.kc] 28)
       have y5 := y4.below b5
       have z5 := z4.below b5
       have hxx := rt_below hx5 b5
       have hxy := rt_below hx6 b5
       have hS6 := hS5.below b5
       have hg5 := hide (gbb hg4.out (gb_of b5))
       go_simp
       refine hK.out _ _ ?_ ?_
       ·trivial
       clear hK K hHeld; intro hHeld
       (try simp only [Act.put, List.setIfInBounds_toArray, List.set_cons_zero, List.set_cons_succ])
       have hwb5 := Nat.lt_of_lt_of_le z4.lt b5.size
       generalize w4.alloc (.cells #[.int .i64 x.k, .string x.nm, .slice x.na x.nn x.nc, .bool x.s, .slice x.a x.l x.c, .slice x.ka x.kn x.kc, .int .i64 x2.k, .string x2.nm, .slice x2.na x2.nn x2.nc, .bool x2.s, .slice x2.a x2.l x2.c, .slice x2.ka x2.kn x2.kc] 28) = w5 at *
       clear z4 y4 hx5 hx6 hS5 hg4 b5
       generalize w4.heap.size = bk at *
       refine wpAnyH_ready (rs := [5]) (by kernel_rfl) (by simp) ?_
       refine AllReadyH.cons (o := ⟨some 18, _, _, _, _, _⟩) rfl (fun K hK => ?_) AllReadyH.nil
       go_simp
       refine hK.out _ _ ?_ ?_
       ·trivial
       clear hK K hHeld; intro hHeld
       (try simp only [Act.put, List.setIfInBounds_toArray, List.set_cons_zero, List.set_cons_succ])
       refine wpAnyH_ready (rs := [6]) (by kernel_rfl) (by simp) ?_
       refine AllReadyH.cons (o := ⟨none, _, _, _, _, _⟩) rfl (fun K hK => ?_) AllReadyH.nil
       have q0 := z5.c0
       have q1 := z5.c1
       have q2' := z5.c2
       have q3 := z5.c3
       have q4 := z5.c4
       have q5 := z5.c5
       have f0 := z5.f 0
       have f1 := z5.f 1
       have f2 := z5.f 2
       have f3 := z5.f 3
       have f4 := z5.f 4
       have f5 := z5.f 5
       have ho := v_only w5 bt ⟨kn, ⟨#[]⟩, none, 0, 0, false, none, 0, 0, some ⟨bk, 0, none⟩, 2, 2⟩
       have z6 := vb_set z5 ⟨kn, ⟨#[]⟩, none, 0, 0, false, none, 0, 0, some ⟨bk, 0, none⟩, 2, 2⟩
       have hx7 := rh_only (rt_two (k := kn) hb5 hbn hxx hxy) hba hwa1 ho
       have y6 : VB _ w.heap.size tz := (ho.block w.heap.size (by omega)).trans y5
       have hg6 := hide (gb_only hg5.out ho (by omega))
       have hS7 := hS0.out.to hg6.out ((ho.block X.br (by omega)).trans hS6.b) hS6.pl
       go_simp
       refine hK.out _ _ ?_ ?_
       ·trivial
       clear hK K hHeld; intro hHeld
       (try simp only [Act.put, List.setIfInBounds_toArray, List.set_cons_zero, List.set_cons_succ])
       refine wpAnyH_done (by kernel_rfl) ?_ _
       replace z6 := hide z6
       replace y6 := hide y6
       replace hx7 := hide hx7
       clear q0 q1 q2' q3 q4 q5 f0 f1 f2 f3 f4 f5 hHeld z5 y5 hxx hxy hb5 hS6 hg5
       change Hid (VB (vSet w5 bt _) bt _) at z6
       change Hid (VB (vSet w5 bt _) w.heap.size _) at y6
       change Hid (w.grownBy (vSet w5 bt _) _) at hg6
       have hka := hide (among_n hS7 (a := 4) (n := 1) (by decide) (by decide))
       clear hbf hk0
       go_wp2_with fail
       refine hka.out.mono ?_
       rintro en w8 ⟨g8, rfl, hS8, -⟩
       have z8 := hide (z6.out.grown g8 hbt)
       have y8 := hide (y6.out.grown g8 hb2)
       have hx8 := hide (rh_gb hx7.out hba g8)
       have hg8 := hide (gbb hg6.out g8)
       replace hS8 := hide hS8
       replace h6 := hide h6
       clear hka z6 y6 hx7 hg6 g8 hS7 ho hG
       go_wp2
       go_roundg m
       case measure => omega
       case rel => exact ⟨_, _, q2, by omega, h6, rfl, hS8, z8, y8, hx8, hg8⟩
     ·go_simp
      rcases th_some hG with ⟨c, h5, rfl⟩ | ⟨u, us, h5, h6⟩
      ·refine Calls.mono (hO m (by omega) _ (q + 1) _ hS4 h5) ?_
       rintro en w4 ⟨g4, hpan⟩
       unfold Pan at hpan
       subst hpan
       exact ⟨rfl, gbb (gbb hg3.out hgd.out) g4, rfl⟩
      ·refine Calls.mono (hO m (by omega) _ (q + 1) _ hS4 h5) ?_
       rintro en w4 ⟨g4, x2, q2, rfl, hx4, rfl, hS5⟩
       have hgd4 := gbb hgd.out g4
       have y4 := y3.grown hgd4 hb2
       have z4 := z3.grown hgd4 hbt
       have hx5 := rh_gb hx3 hba hgd4
       have hx6 := rh_later hx4 (s := wa.heap.size) (bt := bt) (Nat.le_trans hwar kd.size) (Nat.lt_of_lt_of_le z3.lt kd.size)
       have hbn : X.H wa.heap.size bt w4.heap.size := .inr ⟨Nat.le_trans hwar hgd4.size, by have := z4.lt; omega⟩
       have hg4 := hide (gbb hg3.out hgd4)
       (try go_wp2_with fail)
       refine hK.out _ _ ?_ ?_
       ·trivial
       clear hK K hHeld; intro hHeld
       (try simp only [Act.put, List.setIfInBounds_toArray, List.set_cons_zero, List.set_cons_succ])
       refine wpAnyH_ready (rs := [1]) (by kernel_rfl) (by simp) ?_
       refine AllReadyH.cons (o := ⟨some 14, _, _, _, _, _⟩) rfl (fun K hK => ?_) AllReadyH.nil
       have r0 := z4.c0
       have r1 := z4.c1
       have r2' := z4.c2
       have r3 := z4.c3
       have r4 := z4.c4
       have r5 := z4.c5
       go_simp
       refine hK.out _ _ ?_ ?_
       ·trivial
       clear hK K hHeld; intro hHeld
       (try simp only [Act.put, List.setIfInBounds_toArray, List.set_cons_zero, List.set_cons_succ])
       clear r0 r1 r2' r3 r4 r5
       clear hgd4 g4 kd hx4 y3 z3 hx3 hg3 hS3 hS4 hgd zd
       refine wpAnyH_ready (rs := [4]) (by kernel_rfl) (by simp) ?_
       refine AllReadyH.cons (o := ⟨some 17, _, _, _, _, _⟩) rfl (fun K hK => ?_) AllReadyH.nil
       have b5 := below_alloc w4 (.cells #[.int .i64 x.k, .string x.nm, .slice x.na x.nn x.nc, .bool x.s, .slice x.a x.l x.c, .slice x.ka x.kn x.kc, .int .i64 x2.k, .string x2.nm, .slice x2.na x2.nn x2.nc, .bool x2.s, .slice x2.a x2.l x2.c, .slice x2.ka x2.kn x2.kc] 28)
       have hb5 := heap_alloc_new w4 (.cells #[.int .i64 x.k, .string x.nm, .slice x.na x.nn x.nc, .bool x.s, .slice x.a x.l x.c, .slice x.ka x.kn x.kc, .int .i64 x2.k, .string x2.nm, .slice x2.na x2.nn x2.nc, .bool x2.s, .slice x2.a x2.l x2.c, .slice x2.ka x2.kn x2.kc] 28)
       have y5 := y4.below b5
       have z5 := z4.below b5
       have hxx := rt_below hx5 b5
       have hxy := rt_below hx6 b5
       have hS6 := hS5.below b5
       have hg5 := hide (gbb hg4.out (gb_of b5))
       go_simp
       refine hK.out _ _ ?_ ?_
       ·trivial
       clear hK K hHeld; intro hHeld
       (try simp only [Act.put, List.setIfInBounds_toArray, List.set_cons_zero, List.set_cons_succ])
       have hwb5 := Nat.lt_of_lt_of_le z4.lt b5.size
       generalize w4.alloc (.cells #[.int .i64 x.k, .string x.nm, .slice x.na x.nn x.nc, .bool x.s, .slice x.a x.l x.c, .slice x.ka x.kn x.kc, .int .i64 x2.k, .string x2.nm, .slice x2.na x2.nn x2.nc, .bool x2.s, .slice x2.a x2.l x2.c, .slice x2.ka x2.kn x2.kc] 28) = w5 at *
       clear z4 y4 hx5 hx6 hS5 hg4 b5
       generalize w4.heap.size = bk at *
       refine wpAnyH_ready (rs := [5]) (by kernel_rfl) (by simp) ?_
       refine AllReadyH.cons (o := ⟨some 18, _, _, _, _, _⟩) rfl (fun K hK => ?_) AllReadyH.nil
       go_simp
       refine hK.out _ _ ?_ ?_
       ·trivial
       clear hK K hHeld; intro hHeld
       (try simp only [Act.put, List.setIfInBounds_toArray, List.set_cons_zero, List.set_cons_succ])
       refine wpAnyH_ready (rs := [6]) (by kernel_rfl) (by simp) ?_
       refine AllReadyH.cons (o := ⟨none, _, _, _, _, _⟩) rfl (fun K hK => ?_) AllReadyH.nil
       have q0 := z5.c0
       have q1 := z5.c1
       have q2' := z5.c2
       have q3 := z5.c3
       have q4 := z5.c4
       have q5 := z5.c5
       have f0 := z5.f 0
       have f1 := z5.f 1
       have f2 := z5.f 2
       have f3 := z5.f 3
       have f4 := z5.f 4
       have f5 := z5.f 5
       have ho := v_only w5 bt ⟨kn, ⟨#[]⟩, none, 0, 0, false, none, 0, 0, some ⟨bk, 0, none⟩, 2, 2⟩
       have z6 := vb_set z5 ⟨kn, ⟨#[]⟩, none, 0, 0, false, none, 0, 0, some ⟨bk, 0, none⟩, 2, 2⟩
       have hx7 := rh_only (rt_two (k := kn) hb5 hbn hxx hxy) hba hwa1 ho
       have y6 : VB _ w.heap.size tz := (ho.block w.heap.size (by omega)).trans y5
       have hg6 := hide (gb_only hg5.out ho (by omega))
       have hS7 := hS0.out.to hg6.out ((ho.block X.br (by omega)).trans hS6.b) hS6.pl
       go_simp
       refine hK.out _ _ ?_ ?_
       ·trivial
       clear hK K hHeld; intro hHeld
       (try simp only [Act.put, List.setIfInBounds_toArray, List.set_cons_zero, List.set_cons_succ])
       refine wpAnyH_done (by kernel_rfl) ?_ _
       replace z6 := hide z6
       replace y6 := hide y6
       replace hx7 := hide hx7
       clear q0 q1 q2' q3 q4 q5 f0 f1 f2 f3 f4 f5 hHeld z5 y5 hxx hxy hb5 hS6 hg5
       change Hid (VB (vSet w5 bt _) bt _) at z6
       change Hid (VB (vSet w5 bt _) w.heap.size _) at y6
       change Hid (w.grownBy (vSet w5 bt _) _) at hg6
       have hka := hide (among_n hS7 (a := 4) (n := 1) (by decide) (by decide))
       clear hbf hk0
       go_wp2_with fail
       refine hka.out.mono ?_
       rintro en w8 ⟨g8, rfl, hS8, -⟩
       have z8 := hide (z6.out.grown g8 hbt)
       have y8 := hide (y6.out.grown g8 hb2)
       have hx8 := hide (rh_gb hx7.out hba g8)
       have hg8 := hide (gbb hg6.out g8)
       replace hS8 := hide hS8
       replace h6 := hide h6
       clear hka z6 y6 hx7 hg6 g8 hS7 ho hG
       go_wp2
       go_roundg m
       case measure => omega
       case rel => exact ⟨_, _, q2, by omega, h6, rfl, hS8, z8, y8, hx8, hg8⟩
end Sx
end Go.Proofs.YtgpaajolcpgeaaaGreatDoor

namespace Go.Proofs.YtgpaajolcpgeaaaGreatDoor
open Go.RowKit
namespace Sx

set_option maxRecDepth 100000 in
set_option maxHeartbeats 3200000 in
theorem formula_step {X : Rx} {n : Nat} (hO : ∀ m, m ≤ n → Rd4 X 110 2 m) : Rd4 X 66 0 (n + 1) := by
 intro w p r hS hG
 have hG : th (Gr X.e n 2 [] (rem X.xs p)) (fun t r => Gr X.e n 1 [t] r) = some r := hG
 have b0 := below_alloc w (.cells #[.int .i64 0, .string ⟨#[]⟩, .slice none 0 0, .bool false, .slice none 0 0, .slice none 0 0] 28)
 have y := vb_zero w
 have hbr := hS.lt
 have hb2 : w.heap.size ≠ X.br := by omega
 have hS0 := hide hS
 replace hS := hS.below b0
 have hra : w.heap.size < (w.alloc (.cells #[.int .i64 0, .string ⟨#[]⟩, .slice none 0 0, .bool false, .slice none 0 0, .slice none 0 0] 28)).heap.size := by simp
 rcases th_some hG with ⟨c, h1, rfl⟩ | ⟨t, ts, h1, h2⟩
 ·have hc := hide (hO n (Nat.le_refl _) _ p _ hS h1)
  clear hG h1 hO hS
  go_enter Tryz.func66, Tryz.ntmps66
  go_wp2_with fail
  refine hc.out.mono ?_
  rintro en w1 ⟨g1, hpan⟩
  unfold Pan at hpan
  subst hpan
  exact ⟨rfl, gbb (gb_of b0) g1, rfl⟩
 ·have hc := hide (hO n (Nat.le_refl _) _ p _ hS h1)
  have hg0 := hide (gb_of (m := X.br) b0)
  clear hG h1 hS b0
  go_enter Tryz.func66, Tryz.ntmps66
  go_wp2_with fail
  generalize w.alloc (.cells #[.int .i64 0, .string ⟨#[]⟩, .slice none 0 0, .bool false, .slice none 0 0, .slice none 0 0] 28) = wa at *
  refine hc.out.mono ?_
  rintro en w1 ⟨g1, x, q, rfl, hx, rfl, hS1⟩
  have hba : X.br < wa.heap.size := by omega
  have y1 := y.grown g1 hb2
  have hg1 := hide (gbb hg0.out g1)
  have hwa1 := g1.size
  have b2 := below_alloc w1 (.cells #[.int .i64 x.k, .string x.nm, .slice x.na x.nn x.nc, .bool x.s, .slice x.a x.l x.c, .slice x.ka x.kn x.kc] 28)
  have z2 := vb_new w1 x
  have y2 := y1.below b2
  have hS2 := hS1.below b2
  have hx2 := rt_below (rt_first hx) b2
  have hg2 := hide (gbb hg1.out (gb_of b2))
  have hwb2 := b2.size
  clear hc hg0 y g1 hg1 y1 hS1 hx b2
  go_wp2_with fail
  generalize w1.alloc (.cells #[.int .i64 x.k, .string x.nm, .slice x.na x.nn x.nc, .bool x.s, .slice x.a x.l x.c, .slice x.ka x.kn x.kc] 28) = w2 at *
  generalize w1.heap.size = bt at *
  have hbt : bt ≠ X.br := by omega
  clear hwb2
  go_loopg [] n (fun k wr => ∃ (t : Tr) (x : TC) (q : Nat), k ≤ n ∧ Hid (Gr X.e k 1 [t] (rem X.xs q) = some r) ∧ Hid (X.S wr q) ∧ Hid (VB wr bt x) ∧ Hid (VB wr w.heap.size tz) ∧ Hid (Rt (X.H wa.heap.size bt) wr x t) ∧ Hid (w.grownBy wr (some X.br)))
  case atStart => exact ⟨t, x, q, Nat.le_refl _, hide h2, hide hS2, hide z2, hide y2, hide hx2, hg2⟩
  case round =>
   clear hx2 y2 z2 hg2 hS2 h2
   obtain ⟨t, x, q, hkn, hG, hS3, z3, y3, hx3, hg3⟩ := hrel
   cases gk with
   | zero => cases hG.out
   | succ m =>
    have hG : (if hd (rem X.xs q) = wd 20 then th (Gr X.e m 2 [] (rem X.xs q).tail) fun u r => Gr X.e m 1 [nd (lk 20) ([t] ++ [u])] r else some (.inr (row 20 [t], rem X.xs q))) = some r := hG.out
    have cw := hS3.out.wo.cell (k := 20) (by decide)
    have hps := hide (passes_n hS3.out (wd_ne (k := 20) (by decide) (by decide)))
    clear hS3
    go_wp2_with fail
    refine hps.out.mono ?_
    rintro en w3 ⟨g3, ⟨he, rfl, hS3⟩ | ⟨he, rfl, hS3⟩⟩
    ·rw [if_pos he, rem_tail] at hG
     replace z3 := z3.out.grown g3 hbt
     replace y3 := y3.out.grown g3 hb2
     replace hx3 := rh_gb hx3.out hba g3
     replace hg3 := hide (gbb hg3.out g3)
     clear cw hps g3 he
     have hwar : wa.heap.size ≤ w3.heap.size := by have := z3.lt; omega
     go_wp2_with fail
     refine wp_region_held_drew (S := (fun _ => True)) (by kernel_rfl) trivial (fun hHeld => ?_)
     show wpAnyH _ _ _ _ _ 6 _ _ _
     have kd := grow_drew (Below.refl w3.heap.size w3)
     have hS4 := hS3.below kd
     have hgd := hide (gb_of (m := X.br) kd)
     have zd := z3.below kd
     generalize w3.drew = wd3 at *
     refine wpAnyH_take (i := 1) (oi := ⟨some 11, _, _, _, _, _⟩) (v := ?_) rfl (by kernel_rfl) (by kernel_rfl) (by kernel_rfl) (fun _ _ _ h => by first | exact h | cases h.1) (Or.inl ⟨by rfl, ?_⟩) (by assumption) ?_
     rotate_left
     ·intro wq hSw; (try dsimp only at hSw); go_simp; (try with_reducible rfl)
     (try simp only [Act.put, List.setIfInBounds_toArray, List.set_cons_zero, List.set_cons_succ])
     refine wpAnyH_ready (rs := [0, 2]) (by kernel_rfl) (by simp) ?_
     refine AllReadyH.cons (o := ⟨some 10, _, _, _, _, _⟩) rfl (fun K hK => ?_) (AllReadyH.cons (o := ⟨some 12, _, _, _, _, _⟩) rfl (fun K hK => ?_) AllReadyH.nil)
     ·have r0 := zd.c0
      have r1 := zd.c1
      have r2' := zd.c2
      have r3 := zd.c3
      have r4 := zd.c4
      have r5 := zd.c5
      go_simp
      refine hK.out _ _ ?_ ?_
      ·trivial
      clear hK K hHeld; intro hHeld
      (try simp only [Act.put, List.setIfInBounds_toArray, List.set_cons_zero, List.set_cons_succ])
      clear r0 r1 r2' r3 r4 r5
      refine wpAnyH_ready (rs := [2]) (by kernel_rfl) (by simp) ?_
      refine AllReadyH.cons (o := ⟨some 12, _, _, _, _, _⟩) rfl (fun K hK => ?_) AllReadyH.nil
      go_simp
      rcases th_some hG with ⟨c, h5, rfl⟩ | ⟨u, us, h5, h6⟩
      ·refine Calls.mono (hO m (by omega) _ (q + 1) _ hS4 h5) ?_
       rintro en w4 ⟨g4, hpan⟩
       unfold Pan at hpan
       subst hpan
       exact ⟨rfl, gbb (gbb hg3.out hgd.out) g4, rfl⟩
      ·refine Calls.mono (hO m (by omega) _ (q + 1) _ hS4 h5) ?_
       rintro en w4 ⟨g4, x2, q2, rfl, hx4, rfl, hS5⟩
       have hgd4 := gbb hgd.out g4
       have y4 := y3.grown hgd4 hb2
       have z4 := z3.grown hgd4 hbt
       have hx5 := rh_gb hx3 hba hgd4
       have hx6 := rh_later hx4 (s := wa.heap.size) (bt := bt) (Nat.le_trans hwar kd.size) (Nat.lt_of_lt_of_le z3.lt kd.size)
       have hbn : X.H wa.heap.size bt w4.heap.size := .inr ⟨Nat.le_trans hwar hgd4.size, by have := z4.lt; omega⟩
       have hg4 := hide (gbb hg3.out hgd4)
       (try go_wp2_with fail)
       refine hK.out _ _ ?_ ?_
       ·trivial
       clear hK K hHeld; intro hHeld
       (try simp only [Act.put, List.setIfInBounds_toArray, List.set_cons_zero, List.set_cons_succ])
       clear hgd4 g4 kd hx4 y3 z3 hx3 hg3 hS3 hS4 hgd zd
       refine wpAnyH_ready (rs := [3]) (by kernel_rfl) (by simp) ?_
       refine AllReadyH.cons (o := ⟨some 13, _, _, _, _, _⟩) rfl (fun K hK => ?_) AllReadyH.nil
       have b5 := below_alloc w4 (.cells #[.int .i64 x.k, .string x.nm, .slice x.na x.nn x.nc, .bool x.s, .slice x.a x.l x.c, .slice x.ka x.kn x.kc, .int .i64 x2.k, .string x2.nm, .slice x2.na x2.nn x2.nc, .bool x2.s, .slice x2.a x2.l x2.c, .slice x2.ka x2.kn x2.kc] 28)
       have hb5 := heap_alloc_new w4 (.cells #[.int .i64 x.k, .string x.nm, .slice x.na x.nn x.nc, .bool x.s, .slice x.a x.l x.c, .slice x.ka x.kn x.kc, .int .i64 x2.k, .string x2.nm, .slice x2.na x2.nn x2.nc, .bool x2.s, .slice x2.a x2.l x2.c, .slice x2.ka x2.kn x2.kc] 28)
       have y5 := y4.below b5
       have z5 := z4.below b5
       have hxx := rt_below hx5 b5
       have hxy := rt_below hx6 b5
       have hS6 := hS5.below b5
       have hg5 := hide (gbb hg4.out (gb_of b5))
       go_simp
       refine hK.out _ _ ?_ ?_
       ·trivial
       clear hK K hHeld; intro hHeld
       (try simp only [Act.put, List.setIfInBounds_toArray, List.set_cons_zero, List.set_cons_succ])
       have hwb5 := Nat.lt_of_lt_of_le z4.lt b5.size
       generalize w4.alloc (.cells #[.int .i64 x.k, .string x.nm, .slice x.na x.nn x.nc, .bool x.s, .slice x.a x.l x.c, .slice x.ka x.kn x.kc, .int .i64 x2.k, .string x2.nm, .slice x2.na x2.nn x2.nc, .bool x2.s, .slice x2.a x2.l x2.c, .slice x2.ka x2.kn x2.kc] 28) = w5 at *
       clear z4 y4 hx5 hx6 hS5 hg4 b5
       generalize w4.heap.size = bk at *
       refine wpAnyH_ready (rs := [4]) (by kernel_rfl) (by simp) ?_
       refine AllReadyH.cons (o := ⟨some 14, _, _, _, _, _⟩) rfl (fun K hK => ?_) AllReadyH.nil
       go_simp
       refine hK.out _ _ ?_ ?_
       ·trivial
       clear hK K hHeld; intro hHeld
       (try simp only [Act.put, List.setIfInBounds_toArray, List.set_cons_zero, List.set_cons_succ])
       refine wpAnyH_ready (rs := [5]) (by kernel_rfl) (by simp) ?_
       refine AllReadyH.cons (o := ⟨none, _, _, _, _, _⟩) rfl (fun K hK => ?_) AllReadyH.nil
       have q0 := z5.c0
       have q1 := z5.c1
       have q2' := z5.c2
       have q3 := z5.c3
       have q4 := z5.c4
       have q5 := z5.c5
       have f0 := z5.f 0
       have f1 := z5.f 1
       have f2 := z5.f 2
       have f3 := z5.f 3
       have f4 := z5.f 4
       have f5 := z5.f 5
       have ho := v_only w5 bt ⟨20, ⟨#[]⟩, none, 0, 0, false, none, 0, 0, some ⟨bk, 0, none⟩, 2, 2⟩
       have z6 := vb_set z5 ⟨20, ⟨#[]⟩, none, 0, 0, false, none, 0, 0, some ⟨bk, 0, none⟩, 2, 2⟩
       have hx7 := rh_only (rt_two (k := 20) hb5 hbn hxx hxy) hba hwa1 ho
       have y6 : VB _ w.heap.size tz := (ho.block w.heap.size (by omega)).trans y5
       have hg6 := hide (gb_only hg5.out ho (by omega))
       have hS7 := hS0.out.to hg6.out ((ho.block X.br (by omega)).trans hS6.b) hS6.pl
       go_simp
       refine hK.out _ _ ?_ ?_
       ·trivial
       clear hK K hHeld; intro hHeld
       (try simp only [Act.put, List.setIfInBounds_toArray, List.set_cons_zero, List.set_cons_succ])
       refine wpAnyH_done (by kernel_rfl) ?_ _
       replace z6 := hide z6
       replace y6 := hide y6
       replace hx7 := hide hx7
       clear q0 q1 q2' q3 q4 q5 f0 f1 f2 f3 f4 f5 hHeld z5 y5 hxx hxy hb5 hS6 hg5
       change Hid (VB (vSet w5 bt _) bt _) at z6
       change Hid (VB (vSet w5 bt _) w.heap.size _) at y6
       change Hid (w.grownBy (vSet w5 bt _) _) at hg6
       replace hS7 := hide hS7
       replace h6 := hide h6
       clear ho hG
       go_wp2
       go_roundg m
       case measure => omega
       case rel => exact ⟨_, _, q2, by omega, h6, hS7, z6, y6, hx7, hg6⟩
     ·go_simp
      rcases th_some hG with ⟨c, h5, rfl⟩ | ⟨u, us, h5, h6⟩
      ·refine Calls.mono (hO m (by omega) _ (q + 1) _ hS4 h5) ?_
       rintro en w4 ⟨g4, hpan⟩
       unfold Pan at hpan
       subst hpan
       exact ⟨rfl, gbb (gbb hg3.out hgd.out) g4, rfl⟩
      ·refine Calls.mono (hO m (by omega) _ (q + 1) _ hS4 h5) ?_
       rintro en w4 ⟨g4, x2, q2, rfl, hx4, rfl, hS5⟩
       have hgd4 := gbb hgd.out g4
       have y4 := y3.grown hgd4 hb2
       have z4 := z3.grown hgd4 hbt
       have hx5 := rh_gb hx3 hba hgd4
       have hx6 := rh_later hx4 (s := wa.heap.size) (bt := bt) (Nat.le_trans hwar kd.size) (Nat.lt_of_lt_of_le z3.lt kd.size)
       have hbn : X.H wa.heap.size bt w4.heap.size := .inr ⟨Nat.le_trans hwar hgd4.size, by have := z4.lt; omega⟩
       have hg4 := hide (gbb hg3.out hgd4)
       (try go_wp2_with fail)
       refine hK.out _ _ ?_ ?_
       ·trivial
       clear hK K hHeld; intro hHeld
       (try simp only [Act.put, List.setIfInBounds_toArray, List.set_cons_zero, List.set_cons_succ])
       refine wpAnyH_ready (rs := [0]) (by kernel_rfl) (by simp) ?_
       refine AllReadyH.cons (o := ⟨some 10, _, _, _, _, _⟩) rfl (fun K hK => ?_) AllReadyH.nil
       have r0 := z4.c0
       have r1 := z4.c1
       have r2' := z4.c2
       have r3 := z4.c3
       have r4 := z4.c4
       have r5 := z4.c5
       go_simp
       refine hK.out _ _ ?_ ?_
       ·trivial
       clear hK K hHeld; intro hHeld
       (try simp only [Act.put, List.setIfInBounds_toArray, List.set_cons_zero, List.set_cons_succ])
       clear r0 r1 r2' r3 r4 r5
       clear hgd4 g4 kd hx4 y3 z3 hx3 hg3 hS3 hS4 hgd zd
       refine wpAnyH_ready (rs := [3]) (by kernel_rfl) (by simp) ?_
       refine AllReadyH.cons (o := ⟨some 13, _, _, _, _, _⟩) rfl (fun K hK => ?_) AllReadyH.nil
       have b5 := below_alloc w4 (.cells #[.int .i64 x.k, .string x.nm, .slice x.na x.nn x.nc, .bool x.s, .slice x.a x.l x.c, .slice x.ka x.kn x.kc, .int .i64 x2.k, .string x2.nm, .slice x2.na x2.nn x2.nc, .bool x2.s, .slice x2.a x2.l x2.c, .slice x2.ka x2.kn x2.kc] 28)
       have hb5 := heap_alloc_new w4 (.cells #[.int .i64 x.k, .string x.nm, .slice x.na x.nn x.nc, .bool x.s, .slice x.a x.l x.c, .slice x.ka x.kn x.kc, .int .i64 x2.k, .string x2.nm, .slice x2.na x2.nn x2.nc, .bool x2.s, .slice x2.a x2.l x2.c, .slice x2.ka x2.kn x2.kc] 28)
       have y5 := y4.below b5
       have z5 := z4.below b5
       have hxx := rt_below hx5 b5
       have hxy := rt_below hx6 b5
       have hS6 := hS5.below b5
       have hg5 := hide (gbb hg4.out (gb_of b5))
       go_simp
       refine hK.out _ _ ?_ ?_
       ·trivial
       clear hK K hHeld; intro hHeld
       (try simp only [Act.put, List.setIfInBounds_toArray, List.set_cons_zero, List.set_cons_succ])
       have hwb5 := Nat.lt_of_lt_of_le z4.lt b5.size
       generalize w4.alloc (.cells #[.int .i64 x.k, .string x.nm, .slice x.na x.nn x.nc, .bool x.s, .slice x.a x.l x.c, .slice x.ka x.kn x.kc, .int .i64 x2.k, .string x2.nm, .slice x2.na x2.nn x2.nc, .bool x2.s, .slice x2.a x2.l x2.c, .slice x2.ka x2.kn x2.kc] 28) = w5 at *
       clear z4 y4 hx5 hx6 hS5 hg4 b5
       generalize w4.heap.size = bk at *
       refine wpAnyH_ready (rs := [4]) (by kernel_rfl) (by simp) ?_
       refine AllReadyH.cons (o := ⟨some 14, _, _, _, _, _⟩) rfl (fun K hK => ?_) AllReadyH.nil
       go_simp
       refine hK.out _ _ ?_ ?_
       ·trivial
       clear hK K hHeld; intro hHeld
       (try simp only [Act.put, List.setIfInBounds_toArray, List.set_cons_zero, List.set_cons_succ])
       refine wpAnyH_ready (rs := [5]) (by kernel_rfl) (by simp) ?_
       refine AllReadyH.cons (o := ⟨none, _, _, _, _, _⟩) rfl (fun K hK => ?_) AllReadyH.nil
       have q0 := z5.c0
       have q1 := z5.c1
       have q2' := z5.c2
       have q3 := z5.c3
       have q4 := z5.c4
       have q5 := z5.c5
       have f0 := z5.f 0
       have f1 := z5.f 1
       have f2 := z5.f 2
       have f3 := z5.f 3
       have f4 := z5.f 4
       have f5 := z5.f 5
       have ho := v_only w5 bt ⟨20, ⟨#[]⟩, none, 0, 0, false, none, 0, 0, some ⟨bk, 0, none⟩, 2, 2⟩
       have z6 := vb_set z5 ⟨20, ⟨#[]⟩, none, 0, 0, false, none, 0, 0, some ⟨bk, 0, none⟩, 2, 2⟩
       have hx7 := rh_only (rt_two (k := 20) hb5 hbn hxx hxy) hba hwa1 ho
       have y6 : VB _ w.heap.size tz := (ho.block w.heap.size (by omega)).trans y5
       have hg6 := hide (gb_only hg5.out ho (by omega))
       have hS7 := hS0.out.to hg6.out ((ho.block X.br (by omega)).trans hS6.b) hS6.pl
       go_simp
       refine hK.out _ _ ?_ ?_
       ·trivial
       clear hK K hHeld; intro hHeld
       (try simp only [Act.put, List.setIfInBounds_toArray, List.set_cons_zero, List.set_cons_succ])
       refine wpAnyH_done (by kernel_rfl) ?_ _
       replace z6 := hide z6
       replace y6 := hide y6
       replace hx7 := hide hx7
       clear q0 q1 q2' q3 q4 q5 f0 f1 f2 f3 f4 f5 hHeld z5 y5 hxx hxy hb5 hS6 hg5
       change Hid (VB (vSet w5 bt _) bt _) at z6
       change Hid (VB (vSet w5 bt _) w.heap.size _) at y6
       change Hid (w.grownBy (vSet w5 bt _) _) at hg6
       replace hS7 := hide hS7
       replace h6 := hide h6
       clear ho hG
       go_wp2
       go_roundg m
       case measure => omega
       case rel => exact ⟨_, _, q2, by omega, h6, hS7, z6, y6, hx7, hg6⟩
    ·rw [if_neg he] at hG
     obtain rfl : (.inr (t, rem X.xs q) : Res) = r := Option.some.inj hG
     replace z3 := z3.out.grown g3 hbt
     replace y3 := y3.out.grown g3 hb2
     have hfin := hide (vb_set y3 x)
     have hres := hide (gp_ret hS0.out hra (gbb hg3.out g3) (rh_g (rh_gb hx3.out hba g3)) hS3)
     have q0 := y3.c0
     have q1 := y3.c1
     have q2' := y3.c2
     have q3 := y3.c3
     have q4 := y3.c4
     have q5 := y3.c5
     have f0 := y3.f 0
     have f1 := y3.f 1
     have f2 := y3.f 2
     have f3 := y3.f 3
     have f4 := y3.f 4
     have f5 := y3.f 5
     have r0 := z3.c0
     have r1 := z3.c1
     have r2' := z3.c2
     have r3 := z3.c3
     have r4 := z3.c4
     have r5 := z3.c5
     clear z3 y3 hx3 hg3 hS3 hG hO g3 he cw hps
     go_wp2
     refine bodyPost_ret (results_cell_row rfl _ _ w.heap.size 28 _ (0, 0) _ rfl hfin.out Tryz.underlying28 rfl (by kernel_rfl)) rfl ?_
     exact hres.out
end Sx
end Go.Proofs.YtgpaajolcpgeaaaGreatDoor

namespace Go.Proofs.YtgpaajolcpgeaaaGreatDoor
open Go.RowKit
namespace Sx

theorem infoTree : (Tryz.prog.info? 28).map (fun i => (i.zero, i.size, i.bytes)) = some (some (.agg #[.int .i64 0, .string ⟨#[]⟩, .slice none 0 0, .bool false, .slice none 0 0, .slice none 0 0]), 6, 104) := by kernel_rfl
/-- the cells of a row of trees -/
def encs (l : List TC) : List Value := l.flatMap TC.enc
theorem encs_append (l m : List TC) : encs (l ++ m) = encs l ++ encs m := List.flatMap_append
theorem encs_length (l : List TC) : (encs l).length = l.length * 6 := by
 induction l with
 | nil => rfl
 | cons x l ih =>
  show (x.enc ++ encs l).length = _
  rw [List.length_append, ih, List.length_cons, show x.enc.length = 6 from rfl]
  omega
theorem encs_get {l : List TC} : ∀ {i : Nat} (h : i < l.length) {j : Nat}, j < 6 → (encs l)[i * 6 + j]? = (l[i]).enc[j]? := by
 induction l with
 | nil => exact fun h => absurd h (by simp)
 | cons x l ih =>
  intro i h j hj
  show (x.enc ++ encs l)[i * 6 + j]? = _
  cases i with
  | zero =>
   rw [List.getElem?_append_left (by show 0 * 6 + j < 6; omega), Nat.zero_mul, Nat.zero_add]
   rfl
  | succ i =>
   rw [List.getElem?_append_right (by show 6 ≤ (i + 1) * 6 + j; omega), show (i + 1) * 6 + j - x.enc.length = i * 6 + j by show (i + 1) * 6 + j - 6 = _; omega, ih (by simpa using h) hj]
   rfl
theorem enc_one (x : TC) : ∀ u ∈ x.enc, u.oneCell' = true := by
 intro u hu
 simp only [TC.enc, List.mem_cons, List.not_mem_nil, or_false] at hu
 rcases hu with rfl | rfl | rfl | rfl | rfl | rfl <;> rfl
/-- append of a tree to a row of one's own -/
theorem appT {w : World} {ops : Array Oper} {rest : List Oper} {o : Oper} {a : Act} {Q : Exit → Act → World → Prop} (hgd : o.guard = none) (s x : Operand) (ho : o.op = .call { callee := .builtin .append, args := #[s, x], argTypes := #[26, 26] }) (base : Nat) (v : Value) (n : Nat) (l : List TC) (hs : a.eval s = v) (hown : w.ownsRow base 28 6 v n (encs l))
  (t : TC) (g : Nat) (hx : a.eval x = .slice (some ⟨g, 0, none⟩) 1 1) (hc : ∀ j u, t.enc[j]? = some u → w.cell? ⟨g, j, none⟩ = some u) (h63 : n + 1 ≤ 2097152) (hbase : base ≤ w.heap.size)
  (h : ∀ v' w', w'.ownsRow base 28 6 v' (n + 1) (encs (l ++ [t])) → w.grownBy w' v.ownBlock → (v'.ownBlock = v.ownBlock ∨ v'.ownBlock = some w.heap.size) → wpList Tryz.prog ops Q rest (a.put o.dst v') w') : wpList Tryz.prog ops Q (o :: rest) a w := by
 obtain ⟨i0, hi, hz0, hz1, hz2⟩ := info_parts infoTree
 refine wpList_append_own_at w hgd s x 26 ho base 28 i0 _ 6 104 Tryz.underlying26 hi hz0 hz1 hz2 rfl (by decide) v n (encs l) hs hown ⟨g, 0, none⟩ 1 1 t.enc hx rfl (fun j u hu => ?_) (enc_one t) (by unfold maxLen; omega) (by omega) hbase ?_
 ·rw [show (⟨g, 0, none⟩ : Addr).add j = ⟨g, j, none⟩ by unfold Addr.add; split <;> simp_all]
  exact hc j u hu
 ·intro v' w' h1 h2 _ h4
  refine h v' w' ?_ h2 h4
  rw [encs_append, show encs [t] = t.enc by simp [encs]]
  exact h1
/-- a row of one's own reads -/
theorem own_trees {w : World} {base n : Nat} {v : Value} {l : List TC} (h : w.ownsRow base 28 6 v n (encs l)) : l.length = n ∧ ∃ a c, v = .slice a n c ∧ (n = 0 ∨ ∃ g, a = some ⟨g, 0, none⟩ ∧ base ≤ g ∧ Ub w g ∧ v.ownBlock = some g ∧ ∀ i (h : i < l.length) j, j < 6 → w.cell? ⟨g, 0 + i * 6 + j, none⟩ = (l[i]).enc[j]?) := by
 have hn : l.length = n := by have := h.1; rw [encs_length] at this; omega
 refine ⟨hn, ?_⟩
 rcases h.2 with ⟨rfl, rfl⟩ | ⟨g, cap, cur, rfl, hb, hg, hc, hm, hs, ht⟩
 ·exact ⟨none, 0, rfl, .inl rfl⟩
 ·refine ⟨_, cap, rfl, .inr ⟨g, rfl, hb, ⟨_, _, hg⟩, rfl, fun i hi j hj => ?_⟩⟩
  rw [cell_of_row w g (0 + i * 6 + j) _ _ (0, 0) hg, Nat.zero_add, ← encs_get hi hj, ← ht, List.getElem?_take, if_pos (by omega)]
  simp
/-- older than the reader, or new, and not the row -/
abbrev Rx.I (X : Rx) (s : Nat) (v : Value) : Nat → Prop := fun b => (b < X.br ∧ X.P b) ∨ (s ≤ b ∧ v.ownBlock ≠ some b)
/-- the trees of a row -/
def Trs (F : Nat → Prop) (w : World) (l : List TC) (ts : List Tr) : Prop := l.length = ts.length ∧ ∀ (i : Nat) (x : TC) (t : Tr), l[i]? = some x → ts[i]? = some t → Rt F w x t
theorem Trs.kf {F : Nat → Prop} {w w' : World} {l : List TC} {ts : List Tr} (h : Trs F w l ts) (k : Kf F w w') : Trs F w' l ts := ⟨h.1, fun i x t h1 h2 => (h.2 i x t h1 h2).kf k⟩
theorem Trs.snoc {F : Nat → Prop} {w : World} {l : List TC} {ts : List Tr} {x : TC} {t : Tr} (h : Trs F w l ts) (hx : Rt F w x t) : Trs F w (l ++ [x]) (ts ++ [t]) := by
 refine ⟨by simp [h.1], fun i y u h1 h2 => ?_⟩
 by_cases hi : i < l.length
 ·rw [List.getElem?_append_left hi] at h1
  rw [List.getElem?_append_left (by rw [← h.1]; exact hi)] at h2
  exact h.2 i y u h1 h2
 ·rw [List.getElem?_append_right (by omega)] at h1
  rw [List.getElem?_append_right (by have := h.1; omega), ← h.1] at h2
  match hj : i - l.length with
  | 0 =>
   rw [hj] at h1 h2
   cases h1
   cases h2
   exact hx
  | k + 1 =>
   rw [hj] at h1
   simp at h1
theorem Trs.imp {F F' : Nat → Prop} {w : World} {l : List TC} {ts : List Tr} (h : Trs F w l ts) (hF : ∀ b, F b → b < w.heap.size → F' b) : Trs F' w l ts :=
 ⟨h.1, fun i x t h1 h2 => (rt_in (h.2 i x t h1 h2)).imp fun b hb => hF b hb.1 hb.2⟩
/-- a row's trees are a tree's kids -/
theorem rk_row {F : Nat → Prop} {w : World} {g : Nat} {l : List TC} {ts : List Tr} (h : Trs F w l ts) (hF : F g) (hg : Ub w g) (hc : ∀ i (h : i < l.length) j, j < 6 → w.cell? ⟨g, 0 + i * 6 + j, none⟩ = (l[i]).enc[j]?) : RK F w (Rt F w) (some ⟨g, 0, none⟩) l.length ts :=
 ⟨h.1.symm, .inr ⟨g, 0, rfl, hF, hg, fun i hi => ⟨l[i]'(by rw [h.1]; exact hi), fun j hj => hc i (by rw [h.1]; exact hi) j hj, h.2 i _ _ (List.getElem?_eq_getElem _) (List.getElem?_eq_getElem _)⟩⟩⟩
end Sx
end Go.Proofs.YtgpaajolcpgeaaaGreatDoor

namespace Go.Proofs.YtgpaajolcpgeaaaGreatDoor
open Go.RowKit
namespace Sx

theorem trs_new {X : Rx} {s : Nat} {v v' : Value} {w5 w6 : World} {l : List TC} {ts : List Tr} (h : Trs (X.I s v) w5 l ts) (hs : X.br < s) (hv : ∀ b, v.ownBlock = some b → s ≤ b) (g : w5.grownBy w6 v.ownBlock) (hb : v'.ownBlock = v.ownBlock ∨ v'.ownBlock = some w5.heap.size) : Trs (X.I s v') w6 l ts := by
 have h1 : Trs (fun b => X.I s v b ∧ X.I s v' b) w5 l ts := h.imp fun b hI hl => ⟨hI, hI.imp id fun ⟨h1, h2⟩ => ⟨h1, fun e => by
  rcases hb with hb | hb
  ·exact h2 (hb ▸ e)
  ·rw [hb] at e
   cases e
   omega⟩⟩
 have h2 : Trs (fun b => X.I s v b ∧ X.I s v' b) w6 l ts := h1.kf ⟨g.size, fun b hF hl => g.block b hl fun e => by
  have := hv b e.symm
  rcases hF.1 with h | h
  ·omega
  ·exact h.2 e.symm⟩
 exact h2.imp fun b hF _ => hF.2
theorem ri_gb {X : Rx} {s : Nat} {v : Value} {w w' : World} {l : List TC} {ts : List Tr} (h : Trs (X.I s v) w l ts) (hb : X.br < s) (g : w.grownBy w' (some X.br)) : Trs (X.I s v) w' l ts := h.kf (Kf.of_grown g fun h => by rcases h with h | h <;> omega)
theorem ri_below {X : Rx} {s : Nat} {v : Value} {w w' : World} {l : List TC} {ts : List Tr} (h : Trs (X.I s v) w l ts) (k : Below w.heap.size w w') : Trs (X.I s v) w' l ts := h.kf (Kf.of_below k)
theorem own_gb {w w' : World} {base : Nat} {e : TypeId} {sz n m : Nat} {v : Value} {l : List Value} (h : w.ownsRow base e sz v n l) (hm : m < base) (g : w.grownBy w' (some m)) : w'.ownsRow base e sz v n l := h.kept g (by
 rcases Option.eq_none_or_eq_some v.ownBlock with e | ⟨b, e⟩
 ·exact .inl e
 ·refine .inr fun e2 => ?_
  have := (h.lt b e).1
  rw [e] at e2
  cases e2
  omega)
theorem rem_len (xs : List TM) (p : Nat) : (rem xs p).length = xs.length - p := by
 unfold rem
 simp
set_option maxRecDepth 100000 in
set_option maxHeartbeats 3200000 in
theorem row_n {X : Rx} {n kk K : Nat} (hk3 : 3 ≤ kk) (hk2 : kk ≤ 22) (A : Nat → List TD → Option Res) (L : Nat → List Tr → List TD → Option Res) (hL0 : ∀ acc ts, L 0 acc ts = none)
  (hL : ∀ m acc ts, L (m + 1) acc ts = if hd ts = wd kk then th (A m ts.tail) (fun u r => L m (acc ++ [u]) r) else some (.inr (row kk acc, ts)))
  (hcf : ∀ w, (callFunc K #[X.ptr]).run Tryz.prog w = .ok (.enter K #[X.ptr]) w)
  (hAl : ∀ m ts t q, A m ts = some (.inr (t, q)) → q.length ≤ ts.length)
  (hA : ∀ m, m ≤ n → ∀ w p r, X.S w p → A m (rem X.xs p) = some r → Calls Tryz.prog K #[X.ptr] w (GP X w r)) {w : World} {p : Nat} {r : Res} (hS : X.S w p) (hG : th (A n (rem X.xs p)) (fun t q => L n [t] q) = some r) :
  Calls Tryz.prog 166 #[X.ptr, .int .i64 kk, .func (.func K) #[X.ptr] #[]] w (GP X w r) := by
 have b0 := below_alloc w (.cells #[.int .i64 0, .string ⟨#[]⟩, .slice none 0 0, .bool false, .slice none 0 0, .slice none 0 0] 28)
 have y := vb_zero w
 have hbr := hS.lt
 have hb2 : w.heap.size ≠ X.br := by omega
 have hS0 := hide hS
 replace hS := hS.below b0
 have hra : w.heap.size < (w.alloc (.cells #[.int .i64 0, .string ⟨#[]⟩, .slice none 0 0, .bool false, .slice none 0 0, .slice none 0 0] 28)).heap.size := by simp
 have hxl : X.xs.length ≤ 1048576 := by have := hS0.out.nl; have := hS0.out.ws.n; omega
 rcases th_some hG with ⟨c, h1, rfl⟩ | ⟨t, ts, h1, h2⟩
 ·have hc := hide (hA n (Nat.le_refl _) _ p _ hS h1)
  clear hG h1 hA hS hL hL0 hAl
  go_enter Tryz.func166, Tryz.ntmps166
  go_wp2_with fail
  refine hc.out.mono ?_
  rintro en w1 ⟨g1, hpan⟩
  unfold Pan at hpan
  subst hpan
  exact ⟨rfl, gbb (gb_of b0) g1, rfl⟩
 ·have hc := hide (hA n (Nat.le_refl _) _ p _ hS h1)
  have hl1 := hAl _ _ _ _ h1
  have hg0 := hide (gb_of (m := X.br) b0)
  clear hG h1 hS b0
  replace hL := hide hL
  replace hL0 := hide hL0
  replace hA := hide hA
  replace hAl := hide hAl
  go_enter Tryz.func166, Tryz.ntmps166
  go_wp2_with fail
  generalize w.alloc (.cells #[.int .i64 0, .string ⟨#[]⟩, .slice none 0 0, .bool false, .slice none 0 0, .slice none 0 0] 28) = wa at *
  refine hc.out.mono ?_
  rintro en w1 ⟨g1, x, q, rfl, hx, rfl, hS1⟩
  have hba : X.br < wa.heap.size := by omega
  have y1 := y.grown g1 hb2
  have hg1 := hide (gbb hg0.out g1)
  have hwa1 := g1.size
  have b2 := below_alloc w1 (.cells #[.int .i64 x.k, .string x.nm, .slice x.na x.nn x.nc, .bool x.s, .slice x.a x.l x.c, .slice x.ka x.kn x.kc] 28)
  have hrow2 : (w1.alloc (.cells #[.int .i64 x.k, .string x.nm, .slice x.na x.nn x.nc, .bool x.s, .slice x.a x.l x.c, .slice x.ka x.kn x.kc] 28)).ownsRow wa.heap.size 28 6 (.slice (some ⟨w1.heap.size, 0, none⟩) 1 1) [x].length (encs [x]) := ⟨rfl, .inr ⟨w1.heap.size, 1, _, rfl, hwa1, heap_alloc_new w1 _, Nat.le_refl _, by decide, rfl, rfl⟩⟩
  have y2 := y1.below b2
  have hS2 := hS1.below b2
  have hx2 : Trs (X.I wa.heap.size (.slice (some ⟨w1.heap.size, 0, none⟩) 1 1)) _ [x] [t] := (Trs.snoc (l := []) (ts := []) ⟨rfl, fun i x t h => by simp at h⟩ (rt_below ((rt_in hx).imp fun b ⟨h1, h2⟩ => h1.imp id fun h => ⟨h, fun e => by have e2 : w1.heap.size = b := Option.some.inj e; omega⟩) b2))
  have hg2 := hide (gbb hg1.out (gb_of b2))
  rw [rem_len, rem_len] at hl1
  have hwb2 := Nat.le_trans hwa1 b2.size
  have hq0 := hS1.pl
  clear hc hg0 y g1 hg1 y1 hS1 hx b2
  replace hrow2 := hide hrow2
  replace y2 := hide y2
  replace hS2 := hide hS2
  replace hx2 := hide hx2
  replace h2 := hide h2
  go_wp2_with fail
  generalize w1.alloc (.cells #[.int .i64 x.k, .string x.nm, .slice x.na x.nn x.nc, .bool x.s, .slice x.a x.l x.c, .slice x.ka x.kn x.kc] 28) = w2 at *
  generalize w1.heap.size = bt at *
  go_loopg [7] n (fun k v wr => ∃ (l : List TC) (ts : List Tr) (q : Nat), k ≤ n ∧ Hid (L k ts (rem X.xs q) = some r) ∧ ts ≠ [] ∧ l.length + (X.xs.length - q) ≤ X.xs.length + 1 ∧ q ≤ X.xs.length ∧ wa.heap.size ≤ wr.heap.size ∧ Hid (wr.ownsRow wa.heap.size 28 6 v l.length (encs l)) ∧ Hid (Trs (X.I wa.heap.size v) wr l ts) ∧ Hid (X.S wr q) ∧ Hid (VB wr w.heap.size tz) ∧ Hid (w.grownBy wr (some X.br)))
  case atStart => exact ⟨[x], [t], q, Nat.le_refl _, h2, by simp, by simp; omega, hq0, hwb2, hrow2, hx2, hS2, y2, hg2⟩
  case round =>
   clear hrow2 y2 hS2 hx2 h2 hg2
   clear hwb2
   obtain ⟨l, ts, q, hkn, hG, hne, hll, hq, hwar, hrow3, hx3, hS3, y3, hg3⟩ := hrel
   cases gk with
   | zero =>
    have := hG.out
    rw [hL0.out] at this
    cases this
   | succ m =>
    have hG := hG.out
    rw [hL.out] at hG
    have cw := hS3.out.wo.cell (k := kk) (by omega)
    have hps := hide (passes_n hS3.out (wd_ne hk3 hk2))
    have hi0 : (0 : Int) ≤ (kk : Int) := by omega
    have hi1 : (kk : Int) < 23 := by omega
    clear hS3
    go_wp2_with fail
    clear cw
    refine hps.out.mono ?_
    rintro en w3 ⟨g3, ⟨he, rfl, hS3⟩ | ⟨he, rfl, hS3⟩⟩
    ·rw [if_pos he, rem_tail] at hG
     have hq1 := hd_ne (wd_ne hk3 hk2) he
     replace y3 := hide (y3.out.grown g3 hb2)
     replace hx3 := hide (ri_gb hx3.out hba g3)
     replace hrow3 := own_gb hrow3.out hba g3
     replace hg3 := hide (gbb hg3.out g3)
     replace hwar := Nat.le_trans hwar g3.size
     obtain ⟨hln, av, cv, rfl, -⟩ := own_trees hrow3
     replace hrow3 := hide hrow3
     clear hps g3 he hln
     rcases th_some hG with ⟨c, h5, rfl⟩ | ⟨u, us, h5, h6⟩
     ·have hc := hide (hA.out m (by omega) _ (q + 1) _ hS3 h5)
      clear hG h5 hS3
      go_wp2_with fail
      refine hc.out.mono ?_
      rintro en w4 ⟨g4, hpan⟩
      unfold Pan at hpan
      subst hpan
      exact ⟨rfl, gbb hg3.out g4, rfl⟩
     ·have hc := hide (hA.out m (by omega) _ (q + 1) _ hS3 h5)
      have hl5 := hAl.out _ _ _ _ h5
      clear hG h5 hS3
      go_wp2_with fail
      refine hc.out.mono ?_
      rintro en w4 ⟨g4, x2, q2, rfl, hx4, rfl, hS4⟩
      rw [rem_len, rem_len] at hl5
      have hq2 := hS4.pl
      have b5 := below_alloc w4 (.cells #[.int .i64 x2.k, .string x2.nm, .slice x2.na x2.nn x2.nc, .bool x2.s, .slice x2.a x2.l x2.c, .slice x2.ka x2.kn x2.kc] 28)
      have hob3 : ∀ b, Value.ownBlock (.slice av l.length cv) = some b → wa.heap.size ≤ b ∧ b < w3.heap.size := fun b e => hrow3.out.lt b e
      have hx5 : Rt (X.I wa.heap.size (.slice av l.length cv)) w4 x2 u := hx4.imp fun b hb => hb.imp id fun h => by
       refine ⟨Nat.le_trans ?_ h, fun e => ?_⟩
       ·exact hwar
       ·have := (hob3 b e).2
        omega
      have hbr3 : X.br < w3.heap.size := by omega
      have hx6 := ri_below ((ri_gb hx3.out hba g4).snoc hx5) b5
      have hrow5 := hide ((own_gb hrow3.out hba g4).alloc (.cells #[.int .i64 x2.k, .string x2.nm, .slice x2.na x2.nn x2.nc, .bool x2.s, .slice x2.a x2.l x2.c, .slice x2.ka x2.kn x2.kc] 28))
      have hc5 : ∀ j u, x2.enc[j]? = some u → (w4.alloc (.cells #[.int .i64 x2.k, .string x2.nm, .slice x2.na x2.nn x2.nc, .bool x2.s, .slice x2.a x2.l x2.c, .slice x2.ka x2.kn x2.kc] 28)).cell? ⟨w4.heap.size, j, none⟩ = some u := fun j u hu => by
       rw [cell_of_row _ w4.heap.size j _ _ (0, 0) (heap_alloc_new w4 _)]
       simpa [TC.enc] using hu
      have y5 := hide ((y3.out.grown g4 hb2).below b5)
      have hS5 := hide (hS4.below b5)
      have hg5 := hide (gbb (gbb hg3.out g4) (gb_of b5))
      have hwa5 : wa.heap.size ≤ (w4.alloc (.cells #[.int .i64 x2.k, .string x2.nm, .slice x2.na x2.nn x2.nc, .bool x2.s, .slice x2.a x2.l x2.c, .slice x2.ka x2.kn x2.kc] 28)).heap.size := Nat.le_trans hwar (Nat.le_trans g4.size b5.size)
      have hob : Hid (∀ b, Value.ownBlock (.slice av l.length cv) = some b → wa.heap.size ≤ b) := hide fun b e => (hob3 b e).1
      replace hx6 := hide hx6
      replace h6 := hide h6
      replace hc5 := hide hc5
      clear hc hx4 hx5 hrow3 y3 hS4 hg3 g4 b5 hob3 hx3
      go_wp2_with (refine appT rfl _ _ rfl wa.heap.size _ l.length l rfl hrow5.out x2 w4.heap.size rfl hc5.out (by omega) hwa5 ?_)
      intro v' w6 ho6 hg6 hb6
      have hx7 := hide (trs_new hx6.out hba hob.out hg6 (hb6.imp id fun e => e.trans (by simp)))
      have y7 : Hid (VB w6 w.heap.size tz) := hide ((hg6.block w.heap.size y5.out.lt (fun e => by have := hob.out _ e.symm; omega)).trans y5.out)
      have hg7 := hide (gb_row hg5.out hg6 (fun b e => Nat.le_trans (Nat.le_of_lt hra) (hob.out b e)))
      have hS7 := hide (hS0.out.to hg7.out ((hg6.block X.br hS5.out.lt (fun e => by have := hob.out _ e.symm; omega)).trans hS5.out.b) hS5.out.pl)
      have hwa7 := Nat.le_trans hwa5 hg6.size
      rw [show l.length + 1 = (l ++ [x2]).length by simp] at ho6
      obtain ⟨-, av6, cv6, rfl, -⟩ := own_trees ho6
      replace ho6 := hide ho6
      clear hg6 hb6 hx6 y5 hg5 hS5 hrow5 hc5 hob hwa5
      go_wp2
      go_roundg m
      case measure => omega
      case rel => exact ⟨l ++ [x2], ts ++ [u], q2, by omega, h6, by simp, by simp; omega, hq2, hwa7, ho6, hx7, hS7, y7, hg7⟩
    ·rw [if_neg he] at hG
     obtain rfl := Option.some.inj hG
     replace y3 := y3.out.grown g3 hb2
     replace hx3 := ri_gb hx3.out hba g3
     replace hrow3 := own_gb hrow3.out hba g3
     replace hg3 := hide (gbb hg3.out g3)
     obtain ⟨hln, av, cv, rfl, hcl⟩ := own_trees hrow3
     obtain ⟨hlt, hxs⟩ := hx3
     have hl0 : l.length ≠ 0 := fun e => hne (List.length_eq_zero_iff.1 (hlt ▸ e))
     obtain ⟨g, rfl, hwg, hgl, -, hcc⟩ := hcl.resolve_left hl0
     have hxg : Trs (X.G wa) w3 l ts := ⟨hlt, fun i x t h1 h2 => (hxs i x t h1 h2).imp fun b hb => hb.imp id fun h => h.1⟩
     have hkr := rk_row hxg (.inr hwg) hgl hcc
     clear hps g3 he hln hG hrow3 hcl hA hL hL0 hAl hxs
     by_cases h1 : l.length = 1
     ·obtain ⟨x, rfl⟩ := List.length_eq_one_iff.1 h1
      obtain ⟨t, rfl⟩ := List.length_eq_one_iff.1 (hlt ▸ h1)
      have hres := hide (gp_ret hS0.out hra hg3.out (hxg.2 0 x t rfl rfl) hS3)
      have hfin := hide (vb_set y3 x)
      have r0 : w3.cell? ⟨g, 0, none⟩ = some (.int .i64 x.k) := hcc 0 (by simp) 0 (by decide)
      have r1 : w3.cell? ⟨g, 1, none⟩ = some (.string x.nm) := hcc 0 (by simp) 1 (by decide)
      have r2 : w3.cell? ⟨g, 2, none⟩ = some (.slice x.na x.nn x.nc) := hcc 0 (by simp) 2 (by decide)
      have r3 : w3.cell? ⟨g, 3, none⟩ = some (.bool x.s) := hcc 0 (by simp) 3 (by decide)
      have r4 : w3.cell? ⟨g, 4, none⟩ = some (.slice x.a x.l x.c) := hcc 0 (by simp) 4 (by decide)
      have r5 : w3.cell? ⟨g, 5, none⟩ = some (.slice x.ka x.kn x.kc) := hcc 0 (by simp) 5 (by decide)
      have q0 := y3.c0
      have f0 := y3.f 0
      have q1 := y3.c1
      have f1 := y3.f 1
      have q2' := y3.c2
      have f2 := y3.f 2
      have q3 := y3.c3
      have f3 := y3.f 3
      have q4 := y3.c4
      have f4 := y3.f 4
      have q5 := y3.c5
      have f5 := y3.f 5
      clear hcc hkr hxg y3 hg3 hS3 hlt h1 hl0 hll hne
      go_wp2
      refine bodyPost_ret (results_cell_row rfl _ _ w.heap.size 28 _ (0, 0) _ rfl hfin.out Tryz.underlying28 rfl (by kernel_rfl)) rfl ?_
      exact hres.out
     ·have hrw : row kk ts = nd (lk kk) ts := by
       match ts, hne, hlt with
       | [t], _, hlt => exact absurd hlt h1
       | _ :: _ :: _, _, _ => rfl
      have hres := hide (gp_ret (x := ⟨kk, ⟨#[]⟩, none, 0, 0, false, none, 0, 0, some ⟨g, 0, none⟩, l.length, cv⟩) hS0.out hra hg3.out (rt_mk (rl_k _ _ kk _ _ _) hkr) hS3)
      have hfin := hide (vb_set y3 ⟨kk, ⟨#[]⟩, none, 0, 0, false, none, 0, 0, some ⟨g, 0, none⟩, l.length, cv⟩)
      have hbf : ((l.length : Int) == 1) = false := by
       have : (l.length : Int) ≠ 1 := by omega
       simpa using this
      have q0 := y3.c0
      have f0 := y3.f 0
      have q1 := y3.c1
      have f1 := y3.f 1
      have q2' := y3.c2
      have f2 := y3.f 2
      have q3 := y3.c3
      have f3 := y3.f 3
      have q4 := y3.c4
      have f4 := y3.f 4
      have q5 := y3.c5
      have f5 := y3.f 5
      replace hrw := hide hrw
      clear hcc hkr hxg y3 hg3 hS3 hlt hll hne hl0 h1
      generalize l.length = ll at *
      go_wp2
      refine bodyPost_ret (results_cell_row rfl _ _ w.heap.size 28 _ (0, 0) _ rfl hfin.out Tryz.underlying28 rfl (by kernel_rfl)) rfl ?_
      rw [hrw.out]
      exact hres.out
end Sx
end Go.Proofs.YtgpaajolcpgeaaaGreatDoor

namespace Go.Proofs.YtgpaajolcpgeaaaGreatDoor
open Go.RowKit
namespace Sx

theorem nms_len (ts : List TD) : (nms ts).2.length ≤ ts.length := by
  induction ts with
  | nil => exact Nat.le_refl _
  | cons t ts ih =>
    unfold nms
    split
    · exact Nat.le_trans ih (by simp)
    · exact Nat.le_refl _
theorem th_len {x : Option Res} {f : Tr → List TD → Option Res} {ts : List TD} {t : Tr} {q : List TD} (h : th x f = some (.inr (t, q))) (h1 : ∀ u r, x = some (.inr (u, r)) → r.length ≤ ts.length) (h2 : ∀ u r, f u r = some (.inr (t, q)) → q.length ≤ r.length) : q.length ≤ ts.length := by
  rcases th_some h with ⟨c, _, e⟩ | ⟨u, r, e1, e2⟩
  · cases e
  · exact Nat.le_trans (h2 u r e2) (h1 u r e1)
theorem le_tail {ts : List TD} {k : Nat} (h : k ≤ ts.tail.length) : k ≤ ts.length := by
  rw [List.length_tail] at h
  omega
theorem tail_le (ts : List TD) : ts.tail.length ≤ ts.length := by
  rw [List.length_tail]
  omega
theorem gr8 (e n : Nat) (acc : List Tr) (ts : List TD) : Gr e (n + 1) 8 acc ts = (if amo 7 2 (hd ts) ≠ 0 then some (.inr (nd (lk (amo 7 2 (hd ts))) [], ts.tail))
        else if hd ts = opn then th (Gr e n 0 [] ts.tail) fun t r => if hd r = cls' then some (.inr (t, r.tail)) else some (.inl (bad e r))
        else if hk ts = 1 ∧ hd ts.tail = wd 15 then
          match ts with
          | [] => none
          | t :: _ => if t.num = 0 then some (.inl (11, t.at')) else th (Gr e n 9 [] ts.tail.tail) fun u r => some (.inr (nd ⟨15, ⟨#[]⟩, [], false, cl t.num⟩ [u], r))
        else th (Gr e n 9 [] ts) fun l r => if amo 9 6 (hd r) = 0 then some (.inl (bad e r)) else th (Gr e n 9 [] r.tail) fun u q => some (.inr (nd (lk (amo 9 6 (hd r))) [l, u], q))) := rfl
theorem gr11 (e n k : Nat) (acc : List Tr) (ts : List TD) : Gr e (n + 1) (k + 11) acc ts = (if hd ts = wd 3 then th (Gr e n 11 [] ts.tail) fun t r => some (.inr (nd (lk 3) [t], r))
        else if hd ts = opn then th (Gr e n 9 [] ts.tail) fun t r => if hd r = cls' then some (.inr (t, r.tail)) else some (.inl (bad e r))
        else if hk ts = 1 then
          match ts with
          | [] => none
          | t :: r => if hd r = wd 6 then th (Gr e n 11 [] r.tail) fun u q => some (.inr (nd ⟨6, ⟨#[]⟩, [], false, cl t.num⟩ [u], q)) else some (.inr (nd ⟨1, ⟨#[]⟩, [], false, cl t.num⟩ [], r))
        else if hk ts = 2 then some (.inr (nd ⟨2, hd ts, [], false, []⟩ [], ts.tail))
        else some (.inl (bad e ts))) := rfl
/-- what is left is no more than there was -/
theorem gr_len {e : Nat} (n : Nat) : ∀ {tag : Nat} {acc : List Tr} {ts : List TD} {t : Tr} {q : List TD}, Gr e n tag acc ts = some (.inr (t, q)) → q.length ≤ ts.length := by
  induction n with
  | zero => exact fun h => by cases h
  | succ n ih =>
    intro tag acc ts t q h
    match tag with
    | 0 => exact th_len h (fun _ _ => ih) fun _ _ => ih
    | 1 =>
      simp only [Gr] at h
      split at h
      · exact th_len h (fun _ _ h => le_tail (ih h)) fun _ _ => ih
      · cases h
        exact Nat.le_refl _
    | 2 =>
      refine th_len h (fun _ _ => ih) fun u r h => ?_
      split at h
      · exact th_len h (fun _ _ h => le_tail (ih h)) fun _ _ h => by cases h; exact Nat.le_refl _
      · cases h
        exact Nat.le_refl _
    | 3 => exact th_len h (fun _ _ => ih) fun _ _ => ih
    | 4 =>
      simp only [Gr] at h
      split at h
      · exact th_len h (fun _ _ h => le_tail (ih h)) fun _ _ => ih
      · cases h
        exact Nat.le_refl _
    | 5 => exact th_len h (fun _ _ => ih) fun _ _ => ih
    | 6 =>
      simp only [Gr] at h
      split at h
      · exact th_len h (fun _ _ h => le_tail (ih h)) fun _ _ => ih
      · cases h
        exact Nat.le_refl _
    | 7 =>
      simp only [Gr] at h
      split at h
      · exact th_len h (fun _ _ h => le_tail (ih h)) fun _ _ h => by cases h; exact Nat.le_refl _
      · split at h
        · split at h
          · cases h
          · exact th_len h (fun _ _ h => Nat.le_trans (le_tail (ih h)) (le_tail (nms_len _))) fun _ _ h => by cases h; exact Nat.le_refl _
        · exact ih h
    | 8 =>
      rw [gr8] at h
      split at h
      · cases h
        exact tail_le _
      · split at h
        · refine th_len h (fun _ _ h => le_tail (ih h)) fun _ _ h => ?_
          split at h
          · cases h
            exact tail_le _
          · cases h
        · split at h
          · cases ts with
            | nil => cases h
            | cons x r =>
              dsimp only at h
              split at h
              · cases h
              · exact th_len h (fun _ _ h => le_tail (le_tail (ih h))) fun _ _ h => by cases h; exact Nat.le_refl _
          · refine th_len h (fun _ _ => ih) fun u r h => ?_
            split at h
            · cases h
            · exact th_len h (fun _ _ h => le_tail (ih h)) fun _ _ h => by cases h; exact Nat.le_refl _
    | 9 => exact th_len h (fun _ _ => ih) fun _ _ => ih
    | 10 =>
      simp only [Gr] at h
      split at h
      · exact th_len h (fun _ _ h => le_tail (ih h)) fun _ _ => ih
      · cases h
        exact Nat.le_refl _
    | k + 11 =>
      rw [gr11] at h
      split at h
      · exact th_len h (fun _ _ h => le_tail (ih h)) fun _ _ h => by cases h; exact Nat.le_refl _
      · split at h
        · refine th_len h (fun _ _ h => le_tail (ih h)) fun _ _ h => ?_
          split at h
          · cases h
            exact tail_le _
          · cases h
        · split at h
          · cases ts with
            | nil => cases h
            | cons x r =>
              dsimp only at h
              split at h
              · exact th_len h (fun _ _ h => Nat.le_succ_of_le (le_tail (ih h))) fun _ _ h => by cases h; exact Nat.le_refl _
              · cases h
                exact Nat.le_succ _
          · split at h
            · cases h
              exact tail_le _
            · cases h
set_option maxRecDepth 100000 in
set_option maxHeartbeats 3200000 in
theorem ored_step {X : Rx} {n : Nat} (hA : ∀ m, m ≤ n → Rd4 X 167 5 m) : Rd4 X 143 3 (n + 1) := by
  intro w p r hS hG
  have b0 := below_alloc w (.cells #[.int .i64 0, .string ⟨#[]⟩, .slice none 0 0, .bool false, .slice none 0 0, .slice none 0 0] 28)
  have y := vb_zero w
  have hbr := hS.lt
  have hb2 : w.heap.size ≠ X.br := by omega
  have hS0 := hide hS
  replace hS := hS.below b0
  have hra : w.heap.size < (w.alloc (.cells #[.int .i64 0, .string ⟨#[]⟩, .slice none 0 0, .bool false, .slice none 0 0, .slice none 0 0] 28)).heap.size := by simp
  have hc := hide (row_n (X := X) (n := n) (kk := 18) (K := 167) (by decide) (by decide) (fun m ts => Gr X.e m 5 [] ts) (fun m acc ts => Gr X.e m 4 acc ts) (fun _ _ => rfl) (fun _ _ _ => rfl) (fun _ => by kernel_rfl) (fun m _ _ _ h => gr_len m h) hA hS hG)
  have hg0 := hide (gb_of (m := X.br) b0)
  clear hG hA hS b0
  go_enter Tryz.func143, Tryz.ntmps143
  go_wp2_with fail
  generalize w.alloc (.cells #[.int .i64 0, .string ⟨#[]⟩, .slice none 0 0, .bool false, .slice none 0 0, .slice none 0 0] 28) = wa at *
  refine hc.out.mono ?_
  cases r with
  | inl c =>
    rintro en w3 ⟨g3, hpan⟩
    unfold Pan at hpan
    subst hpan
    exact ⟨rfl, gbb hg0.out g3, rfl⟩
  | inr tr =>
    obtain ⟨t, ts⟩ := tr
    rintro en w3 ⟨g3, x, q, rfl, hx, rfl, hS3⟩
    have y3 := y.grown g3 hb2
    have hres := hide (gp_ret hS0.out hra (gbb hg0.out g3) hx hS3)
    have hfin := hide (vb_set y3 x)
    have q0 := y3.c0
    have f0 := y3.f 0
    have q1 := y3.c1
    have f1 := y3.f 1
    have q2' := y3.c2
    have f2 := y3.f 2
    have q3 := y3.c3
    have f3 := y3.f 3
    have q4 := y3.c4
    have f4 := y3.f 4
    have q5 := y3.c5
    have f5 := y3.f 5
    clear hc y3 y g3 hx hS3 hg0
    go_wp2
    refine bodyPost_ret (results_cell_row rfl _ _ w.heap.size 28 _ (0, 0) _ rfl hfin.out Tryz.underlying28 rfl (by kernel_rfl)) rfl ?_
    exact hres.out
set_option maxRecDepth 100000 in
set_option maxHeartbeats 3200000 in
theorem anded_step {X : Rx} {n : Nat} (hA : ∀ m, m ≤ n → Rd4 X 183 7 m) : Rd4 X 167 5 (n + 1) := by
  intro w p r hS hG
  have b0 := below_alloc w (.cells #[.int .i64 0, .string ⟨#[]⟩, .slice none 0 0, .bool false, .slice none 0 0, .slice none 0 0] 28)
  have y := vb_zero w
  have hbr := hS.lt
  have hb2 : w.heap.size ≠ X.br := by omega
  have hS0 := hide hS
  replace hS := hS.below b0
  have hra : w.heap.size < (w.alloc (.cells #[.int .i64 0, .string ⟨#[]⟩, .slice none 0 0, .bool false, .slice none 0 0, .slice none 0 0] 28)).heap.size := by simp
  have hc := hide (row_n (X := X) (n := n) (kk := 17) (K := 183) (by decide) (by decide) (fun m ts => Gr X.e m 7 [] ts) (fun m acc ts => Gr X.e m 6 acc ts) (fun _ _ => rfl) (fun _ _ _ => rfl) (fun _ => by kernel_rfl) (fun m _ _ _ h => gr_len m h) hA hS hG)
  have hg0 := hide (gb_of (m := X.br) b0)
  clear hG hA hS b0
  go_enter Tryz.func167, Tryz.ntmps167
  go_wp2_with fail
  generalize w.alloc (.cells #[.int .i64 0, .string ⟨#[]⟩, .slice none 0 0, .bool false, .slice none 0 0, .slice none 0 0] 28) = wa at *
  refine hc.out.mono ?_
  cases r with
  | inl c =>
    rintro en w3 ⟨g3, hpan⟩
    unfold Pan at hpan
    subst hpan
    exact ⟨rfl, gbb hg0.out g3, rfl⟩
  | inr tr =>
    obtain ⟨t, ts⟩ := tr
    rintro en w3 ⟨g3, x, q, rfl, hx, rfl, hS3⟩
    have y3 := y.grown g3 hb2
    have hres := hide (gp_ret hS0.out hra (gbb hg0.out g3) hx hS3)
    have hfin := hide (vb_set y3 x)
    have q0 := y3.c0
    have f0 := y3.f 0
    have q1 := y3.c1
    have f1 := y3.f 1
    have q2' := y3.c2
    have f2 := y3.f 2
    have q3 := y3.c3
    have f3 := y3.f 3
    have q4 := y3.c4
    have f4 := y3.f 4
    have q5 := y3.c5
    have f5 := y3.f 5
    clear hc y3 y g3 hx hS3 hg0
    go_wp2
    refine bodyPost_ret (results_cell_row rfl _ _ w.heap.size 28 _ (0, 0) _ rfl hfin.out Tryz.underlying28 rfl (by kernel_rfl)) rfl ?_
    exact hres.out
end Sx
end Go.Proofs.YtgpaajolcpgeaaaGreatDoor
