/-
 Several texts in one: ES, ET, EV, EW, LArenaOnce.
-/
import Derived.Test.YtjdghmkolkidpaaGreatDoorU38
import Derived.Test.YtjdghmkolkidpaaGreatDoorU35
namespace Go.Proofs.YtjdghmkolkidpaaGreatDoor
open Go.RowKit Go.Sort Go.Shelf
open Tm At
namespace Nt

theorem own_move {w w' : World} {base : Nat} {ty : TypeId} {st n : Nat} {v : Value} {l : List Value} (h : w.ownsRow base ty st v n l) (hm : ∀ g, v.ownBlock = some g → w'.heap[g]? = w.heap[g]?) : w'.ownsRow base ty st v n l := by
 obtain ⟨h1, h2⟩ := h
 refine ⟨h1, ?_⟩
 rcases h2 with h2 | ⟨g, cap, cur, e1, e2, e3, e4⟩
 ·exact .inl h2
 ·exact .inr ⟨g, cap, cur, e1, e2, (hm g (by rw [e1]; rfl)).trans e3, e4⟩
theorem AG.move {w w' : World} {pa pm : Nat} {nn kk : Int} {s : St} {F : Nat → Prop} (h : AG w pa pm nn kk s F) (hs : w.heap.size ≤ w'.heap.size) (hm : ∀ b, F b ∨ b = pm → w'.heap[b]? = w.heap[b]?) : AG w' pa pm nn kk s F := by
 obtain ⟨⟨C, nv, bm, X, D, h1, h2, h3⟩, h4, h5, h6, h7, h8, h9, h10, h11⟩ := h
 exact ⟨⟨C, nv, bm, X, D, h1.move hs fun b hb => hm b (.inl (h3 b hb)), h2, h3⟩, (hm pm (.inr rfl)).trans h4, h5, h6, h7, h8, h9, h10, fun b hb => Nat.lt_of_lt_of_le (h11 b hb) hs⟩
/-- what 'built' answers: the numbers that the recipe makes as data tell; they lie apart from the arena -/
def BT (w w' : World) (e : Ending) (pa pm : Nat) (nn kk : Int) (F : Nat → Prop) (p : St × List Int) : Prop :=
 ∃ a c F', e = .returned (.slice a p.2.length c) ∧ IL w' a p.2.length p.2 ∧ InF (fun b => w.heap.size ≤ b ∧ ¬ F' b) a p.2.length ∧ AG w' pa pm nn kk p.1 F' ∧ (∀ b, F' b → F b ∨ w.heap.size ≤ b) ∧ ButF (fun b => b = pm ∨ F b) w w'
/-- what the loop of 'built' holds: the numbers so far, in a row of their own apart from the arena -/
structure LI (w wr : World) (pa pm : Nat) (nn kk : Int) (F : Nat → Prop) (p : St × List Int) (vv : Value) (F' : Nat → Prop) : Prop where
 row : wr.ownsRow w.heap.size 3 1 vv p.2.length (p.2.map (Value.int .i64))
 apart : ∀ g, vv.ownBlock = some g → ¬ F' g
 ag : AG wr pa pm nn kk p.1 F'
 sub : ∀ b, F' b → F b ∨ w.heap.size ≤ b
 but : ButF (fun b => b = pm ∨ F b) w wr
theorem LI.below {w wr w2 : World} {pa pm : Nat} {nn kk : Int} {F F' : Nat → Prop} {p : St × List Int} {vv : Value} (h : LI w wr pa pm nn kk F p vv F') (k : Below wr.heap.size wr w2) : LI w w2 pa pm nn kk F p vv F' :=
 ⟨own_move h.row fun g e => k.block g (h.row.lt g e).2, h.apart, h.ag.below k, h.sub, ButF.trans h.but (butF_below k) fun _ _ h => h⟩
theorem LI.asked {w w2 w3 : World} {pa pm : Nat} {nn kk : Int} {F F' F3 : Nat → Prop} {p : St × List Int} {vv : Value} {s' : St} (h : LI w w2 pa pm nn kk F p vv F') (hG3 : AG w3 pa pm nn kk s' F3) (hF3 : ∀ b, F3 b → F' b ∨ w2.heap.size ≤ b) (hB3 : ButF (fun b => b = pm ∨ F' b) w2 w3) (hpm : pm < w.heap.size) : LI w w3 pa pm nn kk F (s', p.2) vv F3 := by
 have hs := h.but.size
 refine ⟨own_move h.row fun g e => ?_, fun g e hf => ?_, hG3, fun b hb => ?_, ButF.trans h.but hB3 fun b hb hf => ?_⟩
 ·have hl := h.row.lt g e
  refine hB3.block g hl.2 fun hf => ?_
  rcases hf with rfl | hf
  ·omega
  ·exact h.apart g e hf
 ·have hl := h.row.lt g e
  rcases hF3 g hf with h1 | h1
  ·exact h.apart g e h1
  ·omega
 ·rcases hF3 b hb with h1 | h1
  ·exact h.sub b h1
  ·exact .inr (by omega)
 ·rcases hf with h1 | h1
  ·exact .inl h1
  ·rcases h.sub b h1 with h2 | h2
   ·exact .inr h2
   ·omega
theorem LI.append {w w3 w4 : World} {pa pm : Nat} {nn kk : Int} {F F3 : Nat → Prop} {s' : St} {ids : List Int} {vv v' : Value} {x : Int} (h : LI w w3 pa pm nn kk F (s', ids) vv F3) (hown : w4.ownsRow w.heap.size 3 1 v' (ids.length + 1) (ids.map (Value.int .i64) ++ [.int .i64 x])) (hgrow : (w3.alloc (.cells #[.int .i64 x] 3)).grownBy w4 vv.ownBlock) (hat : v'.ownBlock = vv.ownBlock ∨ v'.ownBlock = some (w3.alloc (.cells #[.int .i64 x] 3)).heap.size) (hpm : pm < w.heap.size) : LI w w4 pa pm nn kk F (s', ids ++ [x]) v' F3 := by
 have ka := below_alloc w3 (.cells #[.int .i64 x] 3)
 have hs := h.but.size
 have hsz : (w3.alloc (.cells #[.int .i64 x] 3)).heap.size = w3.heap.size + 1 := by simp
 have hblk : ∀ b, b < w3.heap.size → some b ≠ vv.ownBlock → w4.heap[b]? = w3.heap[b]? := fun b hb hn => (hgrow.block b (by omega) hn).trans (ka.block b hb)
 refine ⟨by simpa using hown, fun g e hf => ?_, h.ag.move (by have := hgrow.size; omega) fun b hb => ?_, h.sub, ButF.trans h.but (G := fun b => vv.ownBlock = some b) ⟨hgrow.os.trans ka.os, hgrow.tape.trans ka.tape, hgrow.output.trans ka.output, by have := hgrow.size; omega, fun i hi hn => hblk i hi fun e => hn e.symm⟩ fun b hb hf => ?_⟩
 ·rcases hat with h1 | h1
  ·exact h.apart g (h1.symm.trans e) hf
  ·rw [h1] at e
   injection e with e
   have := h.ag.fl g hf
   omega
 ·rcases hb with hb | rfl
  ·exact hblk b (h.ag.fl b hb) fun e => h.apart b e.symm hb
  ·exact hblk b (by omega) fun e => by have := (h.row.lt b e.symm).1; omega
 ·have := (h.row.lt b hf).1
  omega
theorem LI.bt {w wr : World} {pa pm : Nat} {nn kk : Int} {F F' : Nat → Prop} {p : St × List Int} {a : Option Addr} {n c : Nat} (h : LI w wr pa pm nn kk F p (.slice a n c) F') (hx : ∀ x ∈ p.2, I64 x) : BT w wr (.returned (.slice a n c)) pa pm nn kk F p := by
 obtain ⟨a1, c1, e1, hI, hn⟩ := row_il h.row hx
 cases e1
 refine ⟨a, c, F', rfl, hI, fun b off e h0 => ⟨hn b off e h0, ?_⟩, h.ag, h.sub, h.but⟩
 subst e
 exact h.apart _ rfl
theorem head_get {l : List Int} (h : 0 < l.length) : l[0] = l.headD 0 := by
 cases l with
 | nil => simp at h
 | cons a t => rfl
theorem M9.move {w w' : World} {b o : Nat} {kd xk : Int} {sd : Bool} {ad : Option Addr} {ld cd : Nat} {ap : Option Addr} {np cp : Nat} {sk : Bool} {ak : Option Addr} {lk ck : Nat} {v : Int} {ka : Option Addr} {kn kc : Nat} (h : M9 w b o kd xk sd ad ld cd ap np cp sk ak lk ck v ka kn kc) (hb : w'.heap[b]? = w.heap[b]?) : M9 w' b o kd xk sd ad ld cd ap np cp sk ak lk ck v ka kn kc := by
 have hc : ∀ i, w'.cell? ⟨b, i, none⟩ = w.cell? ⟨b, i, none⟩ := fun i => World.cell?_of_block (a := ⟨b, i, none⟩) hb
 exact ⟨(hc _).trans h.c0, (hc _).trans h.c1, (hc _).trans h.c2, (hc _).trans h.c3, (hc _).trans h.c4, (hc _).trans h.c5, (hc _).trans h.c6, (hc _).trans h.c7, (hc _).trans h.c8⟩
theorem m9_S {w : World} {b o b2 o2 : Nat} {x : Value} {kd xk : Int} {sd : Bool} {ad : Option Addr} {ld cd : Nat} {ap : Option Addr} {np cp : Nat} {sk : Bool} {ak : Option Addr} {lk ck : Nat} {v : Int} {ka : Option Addr} {kn kc : Nat} (h : M9 w b o kd xk sd ad ld cd ap np cp sk ak lk ck v ka kn kc) (h2 : w.cell? ⟨b2, o2, none⟩ = some x) : w.cell? ⟨b, o, none⟩ = some (.int .i64 kd) ∧ w.cell? ⟨b, o + 1, none⟩ = some (.int .i64 xk) ∧ w.cell? ⟨b, o + 2, none⟩ = some (.bool sd) ∧ w.cell? ⟨b, o + 3, none⟩ = some (.slice ad ld cd) ∧ w.cell? ⟨b, o + 4, none⟩ = some (.slice ap np cp) ∧ w.cell? ⟨b, o + 5, none⟩ = some (.bool sk) ∧ w.cell? ⟨b, o + 6, none⟩ = some (.slice ak lk ck) ∧ w.cell? ⟨b, o + 7, none⟩ = some (.int .i64 v) ∧ w.cell? ⟨b, o + 8, none⟩ = some (.slice ka kn kc) ∧ w.cell? ⟨b2, o2, none⟩ = some x := ⟨h.c0, h.c1, h.c2, h.c3, h.c4, h.c5, h.c6, h.c7, h.c8, h2⟩
theorem own_two (w : World) (x y : Int) : (w.alloc (.cells #[.int .i64 x, .int .i64 y] 3)).ownsRow w.heap.size 3 1 (.slice (some ⟨w.heap.size, 0, none⟩) 2 2) 2 (([x, y] : List Int).map (Value.int .i64)) :=
 ⟨rfl, .inr ⟨w.heap.size, 2, #[.int .i64 x, .int .i64 y], rfl, Nat.le_refl _, heap_alloc_new w _, Nat.le_refl _, by unfold maxLen; decide, rfl, rfl⟩⟩

set_option maxRecDepth 100000 in
set_option maxHeartbeats 6400000 in
theorem built_g {w : World} {pa pm : Nat} {nn kk : Int} {s : St} {F : Nat → Prop} {ad : Option Addr} {n c : Nat} {R : List Mk} {B : Nat}
  (hG : AG w pa pm nn kk s F) (h2 : 2 ≤ s.L.length) (hR : ∀ w', ButF (fun b => b = pm ∨ F b) w w' → ML w' ad n R B) (hnR : InF (fun b => ¬ F b ∧ b ≠ pm ∧ b < w.heap.size) ad n) (hrl : R.length = n) (hn : n ≤ 1048576) (hB : B ≤ 1048576) (htab : ∀ w', ButF (fun b => b = pm ∨ F b) w w' → Tab w') :
  Calls Tryz.prog 9 #[.pointer (some ⟨pa, 0, none⟩), .slice ad n c] w fun e w' => BT w w' e pa pm nn kk F (runW nn kk (s, [0, 1]) (R.take 40)) := by
 have hms := hG.mb.lt
 have hin : In s [0, 1] := ⟨by simp, fun x hx => by simp at hx; omega⟩
 go_enter Tryz.func9, Tryz.ntmps9
 go_wp2_with fail
 obtain ⟨i0, hi, hz0, hz1, hz2⟩ := info_parts infoI
 have b0 := below_alloc w (.cells #[.int .i64 0, .int .i64 1] 3)
 have hst : Hid (LI w (w.alloc (.cells #[.int .i64 0, .int .i64 1] 3)) pa pm nn kk F (s, [0, 1]) (.slice (some ⟨w.heap.size, 0, none⟩) 2 2) F) := hide ⟨own_two w 0 1, fun g e hg => by cases e; exact absurd (hG.fl _ hg) (Nat.lt_irrefl _), hG.below b0, fun b hb => .inl hb, butF_below b0⟩
 clear hG
 generalize w.alloc (.cells #[.int .i64 0, .int .i64 1] 3) = wb at *
 clear b0
 go_loopw [5, 6] (fun vv i wr => ∃ (t : Nat) (F' : Nat → Prop), t ≤ n ∧ t ≤ 40 ∧ i = .int .i64 t ∧ Hid (LI w wr pa pm nn kk F (runW nn kk (s, [0, 1]) (R.take t)) vv F')) (fun _ i _ => 40 - (intOf i).toNat)
 case atStart => exact ⟨0, F, Nat.zero_le _, Nat.zero_le _, rfl, hst⟩
 case round =>
  obtain ⟨t, F', ht, ht4, rfl, hli⟩ := hrel
  have hinp := run_in (nn := nn) (kk := kk) (R.take t) hin
  have hlen := run_len nn kk (R.take t) (s, [0, 1])
  rw [List.length_take] at hlen
  have hlen2 : (runW nn kk (s, [0, 1]) (R.take t)).2.length ≤ 42 := by simp at hlen; omega
  clear hlen
  have hLl : ((runW nn kk (s, [0, 1]) (R.take t)).1.L.length : Int) ≤ 2002 := by have h1 := hli.out.ag.ln; have h3 := hli.out.ag.cn; have h4 := hli.out.ag.n2; omega
  have hx64 : ∀ x ∈ (runW nn kk (s, [0, 1]) (R.take t)).2, I64 x := fun x hx => by have := hinp.2 x hx; unfold I64; omega
  obtain ⟨a5, c5, rfl⟩ := own_slice hli.out.row
  by_cases htn : t < n ∧ t < 40
  ·have htw := hide (htab wr hli.out.but)
   rcases (hR wr hli.out.but).2 with h | ⟨bR, oR, rfl, hbR, hMA⟩
   ·omega
   have hbRw := hnR bR oR rfl (by omega)
   obtain ⟨sd, ad1, ld, cd, ap, np, cp, sk, ak, lk, ck, ka, kn, kc, hm9, hzd, hld, hPr, hnp, hzk, hlk, hks, hkn, hik, hiv⟩ := hMA t (by omega)
   clear hMA
   have hsn : Hid (runW nn kk (s, [0, 1]) (R.take (t + 1)) = stepW nn kk (runW nn kk (s, [0, 1]) (R.take t)) R[t]) := hide (by rw [List.take_succ_eq_append_getElem (by omega), run_snoc])
   generalize R[t] = m at *
   generalize runW nn kk (s, [0, 1]) (R.take t) = p at *
   obtain ⟨st, ids⟩ := p
   dsimp only at hinp hlen2 hLl hx64
   have hflr := hli.out.ag.fl
   have hsubr : ¬ (bR = pm ∨ F' bR) := fun hf => by
    rcases hf with hf | hf
    ·exact hbRw.2.1 hf
    ·rcases hli.out.sub bR hf with h9 | h9
     ·exact hbRw.1 h9
     ·have := hbRw.2.2
      omega
   have hpr : pm < wr.heap.size := hli.out.ag.mb.lt
   obtain ⟨a9, c9, e9, hIL, hNew⟩ := row_il (l := ids) hli.out.row hx64
   cases e9
   have hof := hide (of_n (ad := ad1) (kd := m.kind) (xk := m.xk) (sd := sd) (ld := ld) (cd := cd) (ap := ap) (np := np) (cp := cp) (sk := sk) (ak := ak) (lk := lk) (ck := ck) (v := m.v) (kc := kc) (ic := c5) hks (by omega) hIL hinp.1 (show ids.length ≤ 1000 by omega))
   unfold mkv at hof
   have v0 := hm9.c0
   have v1 := hm9.c1
   have v2 := hm9.c2
   have v3 := hm9.c3
   have v4 := hm9.c4
   have v5 := hm9.c5
   have v6 := hm9.c6
   have v7 := hm9.c7
   have v8 := hm9.c8
   clear hIL hNew
   replace hli := hide hli.out
   dsimp only
   go_wp2_with fail
   refine hof.out.mono ?_
   clear v0 v1 v2 v3 v4 v5 v6 v7 v8 hof
   rintro e w1 ⟨aO, cO, rfl, hIO, hnO, k1⟩
   have hm91 := hm9.below k1
   replace hzd := hzd.below k1
   replace hPr := hPr.below k1
   replace hzk := hzk.below k1
   have hli1 := hide (hli.out.below k1)
   have htw1 := hide (htw.out.below k1)
   clear hli htw hm9 k1 hks
   have hwh := hide (what_n (w := w1) (ad := ad1) (xk := m.xk) (sd := sd) (ld := ld) (cd := cd) (ap := ap) (np := np) (cp := cp) (sk := sk) (ak := ak) (lk := lk) (ck := ck) (v := m.v) (ka := ka) (kn := kn) (kc := kc) hik)
   unfold mkv at hwh
   have v0 := hm91.c0
   have v1 := hm91.c1
   have v2 := hm91.c2
   have v3 := hm91.c3
   have v4 := hm91.c4
   have v5 := hm91.c5
   have v6 := hm91.c6
   have v7 := hm91.c7
   have v8 := hm91.c8
   go_wp2_with fail
   refine hwh.out.mono ?_
   clear v0 v1 v2 v3 v4 v5 v6 v7 v8 hwh
   rintro e w2 ⟨rfl, k2⟩
   have hm92 := hm91.below k2
   replace hzd := hzd.below k2
   replace hPr := hPr.below k2
   replace hzk := hzk.below k2
   replace hIO := hIO.below k2
   have hli2 := hide (hli1.out.below k2)
   have htw2 := hide (htw1.out.below k2)
   clear hli1 htw1 hm91 k2
   have hofi : ∀ x ∈ ofI m.kids ids, 0 ≤ x ∧ x < (st.L.length : Int) := fun x hx => hinp.2 x (ofI_mem hinp.1 hx)
   have hofl := ofI_len (ks := m.kids) (ids := ids)
   have v0 := hm92.c0
   have v1 := hm92.c1
   have v2 := hm92.c2
   have v3 := hm92.c3
   have v4 := hm92.c4
   have v5 := hm92.c5
   have v6 := hm92.c6
   have v7 := hm92.c7
   have v8 := hm92.c8
   rcases whatI_cases m.kind with hw | hw | hw | hw | hw
   ·rw [hw]
    have hask : Hid (wants nn kk st ids m = asked nn kk st (atomA m.xk m.xd m.xp m.xt)) := hide (by unfold wants ask; rw [if_pos hw])
    go_wp2_with fail
    refine (atom_ao hli2.out.ag hzd hld hPr hzk hlk hnp hB htw2.out).mono ?_
    clear v0 v1 v2 v3 v4 v5 v6 v7 v8
    rintro e w3 ⟨x3, e3, rfl, hno, hyes, F3, hG3, hF3, hB3⟩
    rw [← hask.out] at hno hyes hG3
    have hli3 := hide (hli2.out.asked hG3 hF3 hB3 hms)
    clear hG3 hF3 hB3 hli2 hask hzd hPr hzk hIO htw2 hm92
    cases ho : (wants nn kk st ids m).2 with
    | none =>
     have he3 : (e3 == 0) = false := by simpa using hno ho
     have hst3 : Hid (LI w w3 pa pm nn kk F (runW nn kk (s, [0, 1]) (R.take (t + 1))) (.slice a5 ids.length c5) F3) := hide (by rw [hsn.out]; unfold stepW; rw [ho]; simpa using hli3.out)
     clear hli3 hno hyes ho
     go_wp2
     exact ⟨⟨t + 1, F3, by omega, by omega, by go_num, hst3⟩, by simp [intOf]; omega⟩
    | some i =>
     obtain ⟨rfl, rfl⟩ := hyes i ho
     have hbase := hide (show w.heap.size ≤ w3.heap.size from hli3.out.but.size)
     clear hno hyes
     go_wp2_with (at_builtin; refine wpList_append_own_at _ rfl _ _ 26 rfl w.heap.size 3 i0 _ 1 8 Tryz.underlying26 hi hz0 hz1 hz2 rfl (by decide) _ _ _ rfl (hli3.out.row.alloc _) ⟨w3.heap.size, 0, none⟩ 1 1 [.int .i64 x3] rfl rfl (by simpa using cell_one_new w3 (.int .i64 x3) 3) (by simp [Value.oneCell']) (by unfold maxLen; dsimp only; omega) (by dsimp only; omega) (by have := hbase.out; simp; omega) ?_; intro v' w4 hown' hgrow hnil hat')
     have hst3 : Hid (LI w w4 pa pm nn kk F (runW nn kk (s, [0, 1]) (R.take (t + 1))) v' F3) := hide (by rw [hsn.out]; unfold stepW; rw [ho]; exact hli3.out.append hown' hgrow hat' hms)
     exact ⟨⟨t + 1, F3, by omega, by omega, by go_num, hst3⟩, by simp [intOf]; omega⟩
   ·rw [hw]
    have hask : Hid (wants nn kk st ids m = asked nn kk st (joinA 5 (ofI m.kids ids))) := hide (by unfold wants ask; rw [if_neg (by omega), if_pos hw])
    go_wp2_with fail
    refine (join_ao (.inl rfl) hli2.out.ag hIO (by omega) hofi htw2.out).mono ?_
    clear v0 v1 v2 v3 v4 v5 v6 v7 v8
    rintro e w3 ⟨x3, e3, rfl, hno, hyes, F3, hG3, hF3, hB3⟩
    rw [← hask.out] at hno hyes hG3
    have hli3 := hide (hli2.out.asked hG3 hF3 hB3 hms)
    clear hG3 hF3 hB3 hli2 hask hzd hPr hzk hIO htw2 hm92
    cases ho : (wants nn kk st ids m).2 with
    | none =>
     have he3 : (e3 == 0) = false := by simpa using hno ho
     have hst3 : Hid (LI w w3 pa pm nn kk F (runW nn kk (s, [0, 1]) (R.take (t + 1))) (.slice a5 ids.length c5) F3) := hide (by rw [hsn.out]; unfold stepW; rw [ho]; simpa using hli3.out)
     clear hli3 hno hyes ho
     go_wp2
     exact ⟨⟨t + 1, F3, by omega, by omega, by go_num, hst3⟩, by simp [intOf]; omega⟩
    | some i =>
     obtain ⟨rfl, rfl⟩ := hyes i ho
     have hbase := hide (show w.heap.size ≤ w3.heap.size from hli3.out.but.size)
     clear hno hyes
     go_wp2_with (at_builtin; refine wpList_append_own_at _ rfl _ _ 26 rfl w.heap.size 3 i0 _ 1 8 Tryz.underlying26 hi hz0 hz1 hz2 rfl (by decide) _ _ _ rfl (hli3.out.row.alloc _) ⟨w3.heap.size, 0, none⟩ 1 1 [.int .i64 x3] rfl rfl (by simpa using cell_one_new w3 (.int .i64 x3) 3) (by simp [Value.oneCell']) (by unfold maxLen; dsimp only; omega) (by dsimp only; omega) (by have := hbase.out; simp; omega) ?_; intro v' w4 hown' hgrow hnil hat')
     have hst3 : Hid (LI w w4 pa pm nn kk F (runW nn kk (s, [0, 1]) (R.take (t + 1))) v' F3) := hide (by rw [hsn.out]; unfold stepW; rw [ho]; exact hli3.out.append hown' hgrow hat' hms)
     exact ⟨⟨t + 1, F3, by omega, by omega, by go_num, hst3⟩, by simp [intOf]; omega⟩
   ·rw [hw]
    have hask : Hid (wants nn kk st ids m = asked nn kk st (joinA 6 (ofI m.kids ids))) := hide (by unfold wants ask; rw [if_neg (by omega), if_neg (by omega), if_pos hw])
    go_wp2_with fail
    refine (join_ao (.inr rfl) hli2.out.ag hIO (by omega) hofi htw2.out).mono ?_
    clear v0 v1 v2 v3 v4 v5 v6 v7 v8
    rintro e w3 ⟨x3, e3, rfl, hno, hyes, F3, hG3, hF3, hB3⟩
    rw [← hask.out] at hno hyes hG3
    have hli3 := hide (hli2.out.asked hG3 hF3 hB3 hms)
    clear hG3 hF3 hB3 hli2 hask hzd hPr hzk hIO htw2 hm92
    cases ho : (wants nn kk st ids m).2 with
    | none =>
     have he3 : (e3 == 0) = false := by simpa using hno ho
     have hst3 : Hid (LI w w3 pa pm nn kk F (runW nn kk (s, [0, 1]) (R.take (t + 1))) (.slice a5 ids.length c5) F3) := hide (by rw [hsn.out]; unfold stepW; rw [ho]; simpa using hli3.out)
     clear hli3 hno hyes ho
     go_wp2
     exact ⟨⟨t + 1, F3, by omega, by omega, by go_num, hst3⟩, by simp [intOf]; omega⟩
    | some i =>
     obtain ⟨rfl, rfl⟩ := hyes i ho
     have hbase := hide (show w.heap.size ≤ w3.heap.size from hli3.out.but.size)
     clear hno hyes
     go_wp2_with (at_builtin; refine wpList_append_own_at _ rfl _ _ 26 rfl w.heap.size 3 i0 _ 1 8 Tryz.underlying26 hi hz0 hz1 hz2 rfl (by decide) _ _ _ rfl (hli3.out.row.alloc _) ⟨w3.heap.size, 0, none⟩ 1 1 [.int .i64 x3] rfl rfl (by simpa using cell_one_new w3 (.int .i64 x3) 3) (by simp [Value.oneCell']) (by unfold maxLen; dsimp only; omega) (by dsimp only; omega) (by have := hbase.out; simp; omega) ?_; intro v' w4 hown' hgrow hnil hat')
     have hst3 : Hid (LI w w4 pa pm nn kk F (runW nn kk (s, [0, 1]) (R.take (t + 1))) v' F3) := hide (by rw [hsn.out]; unfold stepW; rw [ho]; exact hli3.out.append hown' hgrow hat' hms)
     exact ⟨⟨t + 1, F3, by omega, by omega, by go_num, hst3⟩, by simp [intOf]; omega⟩
   ·rw [hw]
    have hask : Hid (wants nn kk st ids m = asked nn kk st (.inr ⟨7, 0, [], 0, pick m.v 4, [(ofI m.kids ids).headD 0]⟩)) := hide (by unfold wants ask; rw [if_neg (by omega), if_neg (by omega), if_neg (by omega), if_pos hw])
    have hone := ofI_ne (ks := m.kids) (ids := ids)
    have hpos : 0 < (ofI m.kids ids).length := List.length_pos_iff.2 hone
    rcases hIO.2 with h | ⟨bO, oO, rfl, hbO, hcO⟩
    ·omega
    have hx0 : (ofI m.kids ids)[0] = (ofI m.kids ids).headD 0 := head_get hpos
    have cO := (hcO 0 hpos).1
    rw [hx0, Nat.add_zero] at cO
    have hx0i := hofi _ (List.getElem_mem hpos)
    rw [hx0] at hx0i
    have hbOn : wr.heap.size ≤ bO := hnO bO oO rfl hpos
    clear hcO hx0 hone
    generalize (ofI m.kids ids).headD 0 = x0 at *
    clear v0 v1 v2 v3 v4 v5 v6 v7 v8 hIO hofi
    generalize (ofI m.kids ids).length = lO at *
    have kD := grow_drew (Below.refl w2.heap.size w2)
    go_wp2_with fail
    refine wp_region_held_drew (S := (fun w' => w'.cell? ⟨bR, oR + t * 9, none⟩ = some (.int .i64 m.kind) ∧ w'.cell? ⟨bR, oR + t * 9 + 1, none⟩ = some (.int .i64 m.xk) ∧ w'.cell? ⟨bR, oR + t * 9 + 2, none⟩ = some (.bool sd) ∧ w'.cell? ⟨bR, oR + t * 9 + 3, none⟩ = some (.slice ad1 ld cd) ∧ w'.cell? ⟨bR, oR + t * 9 + 4, none⟩ = some (.slice ap np cp) ∧ w'.cell? ⟨bR, oR + t * 9 + 5, none⟩ = some (.bool sk) ∧ w'.cell? ⟨bR, oR + t * 9 + 6, none⟩ = some (.slice ak lk ck) ∧ w'.cell? ⟨bR, oR + t * 9 + 7, none⟩ = some (.int .i64 m.v) ∧ w'.cell? ⟨bR, oR + t * 9 + 8, none⟩ = some (.slice ka kn kc) ∧ w'.cell? ⟨bO, oO, none⟩ = some (.int .i64 x0))) (by kernel_rfl) (m9_S (hm92.below kD) ((kD.cell (p := ⟨bO, oO, none⟩) hbO).trans cO)) (fun hHeld => ?_)
    show wpAnyH _ _ _ _ _ 15 _ _ _
    refine wpAnyH_take (i := 0) (oi := ⟨some 63, _, _, _, _, _⟩) (v := ?_) rfl (by kernel_rfl) (by kernel_rfl) (by kernel_rfl) (fun _ _ _ h => h) (Or.inl ⟨by rfl, ?_⟩) (by assumption) ?_
    rotate_left
    ·intro wq hSw; (try dsimp only at hSw); go_simp; (try with_reducible rfl)
    (try simp only [Act.put, List.setIfInBounds_toArray, List.set_cons_zero, List.set_cons_succ])
    refine wpAnyH_take (i := 1) (oi := ⟨some 64, _, _, _, _, _⟩) (v := ?_) rfl (by kernel_rfl) (by kernel_rfl) (by kernel_rfl) (fun _ _ _ h => h) (Or.inl ⟨by rfl, ?_⟩) (by assumption) ?_
    rotate_left
    ·intro wq hSw; (try dsimp only at hSw); go_simp; (try with_reducible rfl)
    (try simp only [Act.put, List.setIfInBounds_toArray, List.set_cons_zero, List.set_cons_succ])
    refine wpAnyH_take (i := 2) (oi := ⟨some 65, _, _, _, _, _⟩) (v := ?_) rfl (by kernel_rfl) (by kernel_rfl) (by kernel_rfl) (fun _ _ _ h => h) (Or.inl ⟨by rfl, ?_⟩) (by assumption) ?_
    rotate_left
    ·intro wq hSw; (try dsimp only at hSw); go_simp; (try with_reducible rfl)
    (try simp only [Act.put, List.setIfInBounds_toArray, List.set_cons_zero, List.set_cons_succ])
    refine wpAnyH_take (i := 3) (oi := ⟨some 66, _, _, _, _, _⟩) (v := ?_) rfl (by kernel_rfl) (by kernel_rfl) (by kernel_rfl) (fun _ _ _ h => h) (Or.inl ⟨by rfl, ?_⟩) (by assumption) ?_
    rotate_left
    ·intro wq hSw; (try dsimp only at hSw); go_simp; (try with_reducible rfl)
    (try simp only [Act.put, List.setIfInBounds_toArray, List.set_cons_zero, List.set_cons_succ])
    refine wpAnyH_take (i := 4) (oi := ⟨some 67, _, _, _, _, _⟩) (v := ?_) rfl (by kernel_rfl) (by kernel_rfl) (by kernel_rfl) (fun _ _ _ h => h) (Or.inl ⟨by rfl, ?_⟩) (by assumption) ?_
    rotate_left
    ·intro wq hSw; (try dsimp only at hSw); go_simp; (try with_reducible rfl)
    (try simp only [Act.put, List.setIfInBounds_toArray, List.set_cons_zero, List.set_cons_succ])
    refine wpAnyH_take (i := 6) (oi := ⟨some 69, _, _, _, _, _⟩) (v := ?_) rfl (by kernel_rfl) (by kernel_rfl) (by kernel_rfl) (fun _ _ _ h => h) (Or.inl ⟨by rfl, ?_⟩) (by assumption) ?_
    rotate_left
    ·intro wq hSw; (try dsimp only at hSw); go_simp; (try with_reducible rfl)
    (try simp only [Act.put, List.setIfInBounds_toArray, List.set_cons_zero, List.set_cons_succ])
    refine wpAnyH_take (i := 7) (oi := ⟨some 70, _, _, _, _, _⟩) (v := ?_) rfl (by kernel_rfl) (by kernel_rfl) (by kernel_rfl) (fun _ _ _ h => h) (Or.inl ⟨by rfl, ?_⟩) (by assumption) ?_
    rotate_left
    ·intro wq hSw; (try dsimp only at hSw); go_simp; (try with_reducible rfl)
    (try simp only [Act.put, List.setIfInBounds_toArray, List.set_cons_zero, List.set_cons_succ])
    refine wpAnyH_take (i := 8) (oi := ⟨some 71, _, _, _, _, _⟩) (v := ?_) rfl (by kernel_rfl) (by kernel_rfl) (by kernel_rfl) (fun _ _ _ h => h) (Or.inl ⟨by rfl, ?_⟩) (by assumption) ?_
    rotate_left
    ·intro wq hSw; (try dsimp only at hSw); go_simp; (try with_reducible rfl)
    (try simp only [Act.put, List.setIfInBounds_toArray, List.set_cons_zero, List.set_cons_succ])
    refine wpAnyH_ready (rs := [5]) (by kernel_rfl) (by simp) ?_
    refine AllReadyH.cons (o := ⟨some 68, _, _, _, _, _⟩) rfl (fun K hK => ?_) AllReadyH.nil
    go_simp
    have hvar := var_n (w := w2.drew) (ad := ad1) (kd := m.kind) (xk := m.xk) (sd := sd) (ld := ld) (cd := cd) (ap := ap) (np := np) (cp := cp) (sk := sk) (ak := ak) (lk := lk) (ck := ck) (ka := ka) (kn := kn) (kc := kc) hiv
    unfold mkv at hvar
    refine Calls.mono hvar ?_
    clear hvar
    rintro e w2b ⟨rfl, k2b⟩
    replace k2b := grow_step k2b (grow_drew (Below.refl _ _))
    have hm92 := hm92.below k2b
    have cO := (k2b.cell (p := ⟨bO, oO, none⟩) hbO).trans cO
    have hli2 := hide (hli2.out.below k2b)
    have htw2 := hide (htw2.out.below k2b)
    have hbR2 : bR < w2b.heap.size := World.block_lt_of_cell? w2b _ hm92.c0
    have hbO2 : bO < w2b.heap.size := World.block_lt_of_cell? w2b _ cO
    (try go_wp2_with fail)
    refine hK.out _ _ ?_ ?_
    ·(try dsimp only); exact m9_S hm92 cO
    clear hK K hHeld; intro hHeld
    (try simp only [Act.put, List.setIfInBounds_toArray, List.set_cons_zero, List.set_cons_succ])
    refine wpAnyH_ready (rs := [9]) (by kernel_rfl) (by simp) ?_
    refine AllReadyH.cons (o := ⟨some 72, _, _, _, _, _⟩) rfl (fun K hK => ?_) AllReadyH.nil
    go_simp
    refine Calls.mono (bind_ao (kd := 7) (.inl rfl) hli2.out.ag (by have := pick_lt m.v (n := 4) (by decide); unfold I64; omega) hx0i htw2.out) ?_
    rintro e w3 ⟨x3, e3, rfl, hno, hyes, F3, hG3, hF3, hB3⟩
    have hm93 := hm92.move (w' := w3) (hB3.block bR hbR2 hsubr)
    have cO3 := (World.cell?_of_block (a := ⟨bO, oO, none⟩) (hB3.block bO hbO2 fun hf => by rcases hf with rfl | hf; omega; have := hflr _ hf; omega)).trans cO
    (try go_wp2_with fail)
    refine hK.out _ _ ?_ ?_
    ·(try dsimp only); exact m9_S hm93 cO3
    clear hK K hHeld; intro hHeld
    (try simp only [Act.put, List.setIfInBounds_toArray, List.set_cons_zero, List.set_cons_succ])
    refine wpAnyH_ready (rs := [10]) (by kernel_rfl) (by simp) ?_
    refine AllReadyH.cons (o := ⟨some 62, _, _, _, _, _⟩) rfl (fun K hK => ?_) AllReadyH.nil
    go_simp
    refine hK.out _ _ ?_ ?_
    ·(try dsimp only); exact m9_S hm93 cO3
    clear hK K hHeld; intro hHeld
    (try simp only [Act.put, List.setIfInBounds_toArray, List.set_cons_zero, List.set_cons_succ])
    refine wpAnyH_take (i := 11) (oi := ⟨some 73, _, _, _, _, _⟩) (v := ?_) rfl (by kernel_rfl) (by kernel_rfl) (by kernel_rfl) (fun _ _ _ h => h) (Or.inl ⟨by rfl, ?_⟩) (by assumption) ?_
    rotate_left
    ·intro wq hSw; (try dsimp only at hSw); go_simp; (try with_reducible rfl)
    (try simp only [Act.put, List.setIfInBounds_toArray, List.set_cons_zero, List.set_cons_succ])
    refine wpAnyH_take (i := 12) (oi := ⟨some 74, _, _, _, _, _⟩) (v := ?_) rfl (by kernel_rfl) (by kernel_rfl) (by kernel_rfl) (fun _ _ _ h => h) (Or.inl ⟨by rfl, ?_⟩) (by assumption) ?_
    rotate_left
    ·intro wq hSw; (try dsimp only at hSw); go_simp; (try with_reducible rfl)
    (try simp only [Act.put, List.setIfInBounds_toArray, List.set_cons_zero, List.set_cons_succ])
    refine wpAnyH_ready (rs := [13]) (by kernel_rfl) (by simp) ?_
    refine AllReadyH.cons (o := ⟨some 8, _, _, _, _, _⟩) rfl (fun K hK => ?_) AllReadyH.nil
    go_simp
    refine hK.out _ _ ?_ ?_
    ·(try dsimp only); exact m9_S hm93 cO3
    clear hK K hHeld; intro hHeld
    (try simp only [Act.put, List.setIfInBounds_toArray, List.set_cons_zero, List.set_cons_succ])
    refine wpAnyH_ready (rs := [14]) (by kernel_rfl) (by simp) ?_
    refine AllReadyH.cons (o := ⟨some 9, _, _, _, _, _⟩) rfl (fun K hK => ?_) AllReadyH.nil
    go_simp
    refine hK.out _ _ ?_ ?_
    ·(try dsimp only); exact m9_S hm93 cO3
    clear hK K hHeld; intro hHeld
    (try simp only [Act.put, List.setIfInBounds_toArray, List.set_cons_zero, List.set_cons_succ])
    refine wpAnyH_done (by kernel_rfl) ?_ _
    rw [← hask.out] at hno hyes hG3
    have hli3 := hide (hli2.out.asked hG3 hF3 hB3 hms)
    clear hG3 hF3 hB3 hli2 hask hzd hPr hzk htw2 hm92 hm93 cO cO3 hHeld
    cases ho : (wants nn kk st ids m).2 with
    | none =>
     have he3 : (e3 == 0) = false := by simpa using hno ho
     have hst3 : Hid (LI w w3 pa pm nn kk F (runW nn kk (s, [0, 1]) (R.take (t + 1))) (.slice a5 ids.length c5) F3) := hide (by rw [hsn.out]; unfold stepW; rw [ho]; simpa using hli3.out)
     clear hli3 hno hyes ho
     go_wp2
     exact ⟨⟨t + 1, F3, by omega, by omega, by go_num, hst3⟩, by simp [intOf]; omega⟩
    | some i =>
     obtain ⟨rfl, rfl⟩ := hyes i ho
     have hbase := hide (show w.heap.size ≤ w3.heap.size from hli3.out.but.size)
     clear hno hyes
     go_wp2_with (at_builtin; refine wpList_append_own_at _ rfl _ _ 26 rfl w.heap.size 3 i0 _ 1 8 Tryz.underlying26 hi hz0 hz1 hz2 rfl (by decide) _ _ _ rfl (hli3.out.row.alloc _) ⟨w3.heap.size, 0, none⟩ 1 1 [.int .i64 x3] rfl rfl (by simpa using cell_one_new w3 (.int .i64 x3) 3) (by simp [Value.oneCell']) (by unfold maxLen; dsimp only; omega) (by dsimp only; omega) (by have := hbase.out; simp; omega) ?_; intro v' w4 hown' hgrow hnil hat')
     have hst3 : Hid (LI w w4 pa pm nn kk F (runW nn kk (s, [0, 1]) (R.take (t + 1))) v' F3) := hide (by rw [hsn.out]; unfold stepW; rw [ho]; exact hli3.out.append hown' hgrow hat' hms)
     exact ⟨⟨t + 1, F3, by omega, by omega, by go_num, hst3⟩, by simp [intOf]; omega⟩
   ·rw [hw]
    have hask : Hid (wants nn kk st ids m = asked nn kk st (.inr ⟨8, 0, [], 0, pick m.v 4, [(ofI m.kids ids).headD 0]⟩)) := hide (by unfold wants ask; rw [if_neg (by omega), if_neg (by omega), if_neg (by omega), if_neg (by omega)])
    have hone := ofI_ne (ks := m.kids) (ids := ids)
    have hpos : 0 < (ofI m.kids ids).length := List.length_pos_iff.2 hone
    rcases hIO.2 with h | ⟨bO, oO, rfl, hbO, hcO⟩
    ·omega
    have hx0 : (ofI m.kids ids)[0] = (ofI m.kids ids).headD 0 := head_get hpos
    have cO := (hcO 0 hpos).1
    rw [hx0, Nat.add_zero] at cO
    have hx0i := hofi _ (List.getElem_mem hpos)
    rw [hx0] at hx0i
    have hbOn : wr.heap.size ≤ bO := hnO bO oO rfl hpos
    clear hcO hx0 hone
    generalize (ofI m.kids ids).headD 0 = x0 at *
    clear v0 v1 v2 v3 v4 v5 v6 v7 v8 hIO hofi
    generalize (ofI m.kids ids).length = lO at *
    have kD := grow_drew (Below.refl w2.heap.size w2)
    go_wp2_with fail
    refine wp_region_held_drew (S := (fun w' => w'.cell? ⟨bR, oR + t * 9, none⟩ = some (.int .i64 m.kind) ∧ w'.cell? ⟨bR, oR + t * 9 + 1, none⟩ = some (.int .i64 m.xk) ∧ w'.cell? ⟨bR, oR + t * 9 + 2, none⟩ = some (.bool sd) ∧ w'.cell? ⟨bR, oR + t * 9 + 3, none⟩ = some (.slice ad1 ld cd) ∧ w'.cell? ⟨bR, oR + t * 9 + 4, none⟩ = some (.slice ap np cp) ∧ w'.cell? ⟨bR, oR + t * 9 + 5, none⟩ = some (.bool sk) ∧ w'.cell? ⟨bR, oR + t * 9 + 6, none⟩ = some (.slice ak lk ck) ∧ w'.cell? ⟨bR, oR + t * 9 + 7, none⟩ = some (.int .i64 m.v) ∧ w'.cell? ⟨bR, oR + t * 9 + 8, none⟩ = some (.slice ka kn kc) ∧ w'.cell? ⟨bO, oO, none⟩ = some (.int .i64 x0))) (by kernel_rfl) (m9_S (hm92.below kD) ((kD.cell (p := ⟨bO, oO, none⟩) hbO).trans cO)) (fun hHeld => ?_)
    show wpAnyH _ _ _ _ _ 15 _ _ _
    refine wpAnyH_take (i := 0) (oi := ⟨some 78, _, _, _, _, _⟩) (v := ?_) rfl (by kernel_rfl) (by kernel_rfl) (by kernel_rfl) (fun _ _ _ h => h) (Or.inl ⟨by rfl, ?_⟩) (by assumption) ?_
    rotate_left
    ·intro wq hSw; (try dsimp only at hSw); go_simp; (try with_reducible rfl)
    (try simp only [Act.put, List.setIfInBounds_toArray, List.set_cons_zero, List.set_cons_succ])
    refine wpAnyH_take (i := 1) (oi := ⟨some 79, _, _, _, _, _⟩) (v := ?_) rfl (by kernel_rfl) (by kernel_rfl) (by kernel_rfl) (fun _ _ _ h => h) (Or.inl ⟨by rfl, ?_⟩) (by assumption) ?_
    rotate_left
    ·intro wq hSw; (try dsimp only at hSw); go_simp; (try with_reducible rfl)
    (try simp only [Act.put, List.setIfInBounds_toArray, List.set_cons_zero, List.set_cons_succ])
    refine wpAnyH_take (i := 2) (oi := ⟨some 80, _, _, _, _, _⟩) (v := ?_) rfl (by kernel_rfl) (by kernel_rfl) (by kernel_rfl) (fun _ _ _ h => h) (Or.inl ⟨by rfl, ?_⟩) (by assumption) ?_
    rotate_left
    ·intro wq hSw; (try dsimp only at hSw); go_simp; (try with_reducible rfl)
    (try simp only [Act.put, List.setIfInBounds_toArray, List.set_cons_zero, List.set_cons_succ])
    refine wpAnyH_take (i := 3) (oi := ⟨some 81, _, _, _, _, _⟩) (v := ?_) rfl (by kernel_rfl) (by kernel_rfl) (by kernel_rfl) (fun _ _ _ h => h) (Or.inl ⟨by rfl, ?_⟩) (by assumption) ?_
    rotate_left
    ·intro wq hSw; (try dsimp only at hSw); go_simp; (try with_reducible rfl)
    (try simp only [Act.put, List.setIfInBounds_toArray, List.set_cons_zero, List.set_cons_succ])
    refine wpAnyH_take (i := 4) (oi := ⟨some 82, _, _, _, _, _⟩) (v := ?_) rfl (by kernel_rfl) (by kernel_rfl) (by kernel_rfl) (fun _ _ _ h => h) (Or.inl ⟨by rfl, ?_⟩) (by assumption) ?_
    rotate_left
    ·intro wq hSw; (try dsimp only at hSw); go_simp; (try with_reducible rfl)
    (try simp only [Act.put, List.setIfInBounds_toArray, List.set_cons_zero, List.set_cons_succ])
    refine wpAnyH_take (i := 6) (oi := ⟨some 84, _, _, _, _, _⟩) (v := ?_) rfl (by kernel_rfl) (by kernel_rfl) (by kernel_rfl) (fun _ _ _ h => h) (Or.inl ⟨by rfl, ?_⟩) (by assumption) ?_
    rotate_left
    ·intro wq hSw; (try dsimp only at hSw); go_simp; (try with_reducible rfl)
    (try simp only [Act.put, List.setIfInBounds_toArray, List.set_cons_zero, List.set_cons_succ])
    refine wpAnyH_take (i := 7) (oi := ⟨some 85, _, _, _, _, _⟩) (v := ?_) rfl (by kernel_rfl) (by kernel_rfl) (by kernel_rfl) (fun _ _ _ h => h) (Or.inl ⟨by rfl, ?_⟩) (by assumption) ?_
    rotate_left
    ·intro wq hSw; (try dsimp only at hSw); go_simp; (try with_reducible rfl)
    (try simp only [Act.put, List.setIfInBounds_toArray, List.set_cons_zero, List.set_cons_succ])
    refine wpAnyH_take (i := 8) (oi := ⟨some 86, _, _, _, _, _⟩) (v := ?_) rfl (by kernel_rfl) (by kernel_rfl) (by kernel_rfl) (fun _ _ _ h => h) (Or.inl ⟨by rfl, ?_⟩) (by assumption) ?_
    rotate_left
    ·intro wq hSw; (try dsimp only at hSw); go_simp; (try with_reducible rfl)
    (try simp only [Act.put, List.setIfInBounds_toArray, List.set_cons_zero, List.set_cons_succ])
    refine wpAnyH_ready (rs := [5]) (by kernel_rfl) (by simp) ?_
    refine AllReadyH.cons (o := ⟨some 83, _, _, _, _, _⟩) rfl (fun K hK => ?_) AllReadyH.nil
    go_simp
    have hvar := var_n (w := w2.drew) (ad := ad1) (kd := m.kind) (xk := m.xk) (sd := sd) (ld := ld) (cd := cd) (ap := ap) (np := np) (cp := cp) (sk := sk) (ak := ak) (lk := lk) (ck := ck) (ka := ka) (kn := kn) (kc := kc) hiv
    unfold mkv at hvar
    refine Calls.mono hvar ?_
    clear hvar
    rintro e w2b ⟨rfl, k2b⟩
    replace k2b := grow_step k2b (grow_drew (Below.refl _ _))
    have hm92 := hm92.below k2b
    have cO := (k2b.cell (p := ⟨bO, oO, none⟩) hbO).trans cO
    have hli2 := hide (hli2.out.below k2b)
    have htw2 := hide (htw2.out.below k2b)
    have hbR2 : bR < w2b.heap.size := World.block_lt_of_cell? w2b _ hm92.c0
    have hbO2 : bO < w2b.heap.size := World.block_lt_of_cell? w2b _ cO
    (try go_wp2_with fail)
    refine hK.out _ _ ?_ ?_
    ·(try dsimp only); exact m9_S hm92 cO
    clear hK K hHeld; intro hHeld
    (try simp only [Act.put, List.setIfInBounds_toArray, List.set_cons_zero, List.set_cons_succ])
    refine wpAnyH_ready (rs := [9]) (by kernel_rfl) (by simp) ?_
    refine AllReadyH.cons (o := ⟨some 87, _, _, _, _, _⟩) rfl (fun K hK => ?_) AllReadyH.nil
    go_simp
    refine Calls.mono (bind_ao (kd := 8) (.inr rfl) hli2.out.ag (by have := pick_lt m.v (n := 4) (by decide); unfold I64; omega) hx0i htw2.out) ?_
    rintro e w3 ⟨x3, e3, rfl, hno, hyes, F3, hG3, hF3, hB3⟩
    have hm93 := hm92.move (w' := w3) (hB3.block bR hbR2 hsubr)
    have cO3 := (World.cell?_of_block (a := ⟨bO, oO, none⟩) (hB3.block bO hbO2 fun hf => by rcases hf with rfl | hf; omega; have := hflr _ hf; omega)).trans cO
    (try go_wp2_with fail)
    refine hK.out _ _ ?_ ?_
    ·(try dsimp only); exact m9_S hm93 cO3
    clear hK K hHeld; intro hHeld
    (try simp only [Act.put, List.setIfInBounds_toArray, List.set_cons_zero, List.set_cons_succ])
    refine wpAnyH_ready (rs := [10]) (by kernel_rfl) (by simp) ?_
    refine AllReadyH.cons (o := ⟨some 77, _, _, _, _, _⟩) rfl (fun K hK => ?_) AllReadyH.nil
    go_simp
    refine hK.out _ _ ?_ ?_
    ·(try dsimp only); exact m9_S hm93 cO3
    clear hK K hHeld; intro hHeld
    (try simp only [Act.put, List.setIfInBounds_toArray, List.set_cons_zero, List.set_cons_succ])
    refine wpAnyH_take (i := 11) (oi := ⟨some 88, _, _, _, _, _⟩) (v := ?_) rfl (by kernel_rfl) (by kernel_rfl) (by kernel_rfl) (fun _ _ _ h => h) (Or.inl ⟨by rfl, ?_⟩) (by assumption) ?_
    rotate_left
    ·intro wq hSw; (try dsimp only at hSw); go_simp; (try with_reducible rfl)
    (try simp only [Act.put, List.setIfInBounds_toArray, List.set_cons_zero, List.set_cons_succ])
    refine wpAnyH_take (i := 12) (oi := ⟨some 89, _, _, _, _, _⟩) (v := ?_) rfl (by kernel_rfl) (by kernel_rfl) (by kernel_rfl) (fun _ _ _ h => h) (Or.inl ⟨by rfl, ?_⟩) (by assumption) ?_
    rotate_left
    ·intro wq hSw; (try dsimp only at hSw); go_simp; (try with_reducible rfl)
    (try simp only [Act.put, List.setIfInBounds_toArray, List.set_cons_zero, List.set_cons_succ])
    refine wpAnyH_ready (rs := [13]) (by kernel_rfl) (by simp) ?_
    refine AllReadyH.cons (o := ⟨some 8, _, _, _, _, _⟩) rfl (fun K hK => ?_) AllReadyH.nil
    go_simp
    refine hK.out _ _ ?_ ?_
    ·(try dsimp only); exact m9_S hm93 cO3
    clear hK K hHeld; intro hHeld
    (try simp only [Act.put, List.setIfInBounds_toArray, List.set_cons_zero, List.set_cons_succ])
    refine wpAnyH_ready (rs := [14]) (by kernel_rfl) (by simp) ?_
    refine AllReadyH.cons (o := ⟨some 9, _, _, _, _, _⟩) rfl (fun K hK => ?_) AllReadyH.nil
    go_simp
    refine hK.out _ _ ?_ ?_
    ·(try dsimp only); exact m9_S hm93 cO3
    clear hK K hHeld; intro hHeld
    (try simp only [Act.put, List.setIfInBounds_toArray, List.set_cons_zero, List.set_cons_succ])
    refine wpAnyH_done (by kernel_rfl) ?_ _
    rw [← hask.out] at hno hyes hG3
    have hli3 := hide (hli2.out.asked hG3 hF3 hB3 hms)
    clear hG3 hF3 hB3 hli2 hask hzd hPr hzk htw2 hm92 hm93 cO cO3 hHeld
    cases ho : (wants nn kk st ids m).2 with
    | none =>
     have he3 : (e3 == 0) = false := by simpa using hno ho
     have hst3 : Hid (LI w w3 pa pm nn kk F (runW nn kk (s, [0, 1]) (R.take (t + 1))) (.slice a5 ids.length c5) F3) := hide (by rw [hsn.out]; unfold stepW; rw [ho]; simpa using hli3.out)
     clear hli3 hno hyes ho
     go_wp2
     exact ⟨⟨t + 1, F3, by omega, by omega, by go_num, hst3⟩, by simp [intOf]; omega⟩
    | some i =>
     obtain ⟨rfl, rfl⟩ := hyes i ho
     have hbase := hide (show w.heap.size ≤ w3.heap.size from hli3.out.but.size)
     clear hno hyes
     go_wp2_with (at_builtin; refine wpList_append_own_at _ rfl _ _ 26 rfl w.heap.size 3 i0 _ 1 8 Tryz.underlying26 hi hz0 hz1 hz2 rfl (by decide) _ _ _ rfl (hli3.out.row.alloc _) ⟨w3.heap.size, 0, none⟩ 1 1 [.int .i64 x3] rfl rfl (by simpa using cell_one_new w3 (.int .i64 x3) 3) (by simp [Value.oneCell']) (by unfold maxLen; dsimp only; omega) (by dsimp only; omega) (by have := hbase.out; simp; omega) ?_; intro v' w4 hown' hgrow hnil hat')
     have hst3 : Hid (LI w w4 pa pm nn kk F (runW nn kk (s, [0, 1]) (R.take (t + 1))) v' F3) := hide (by rw [hsn.out]; unfold stepW; rw [ho]; exact hli3.out.append hown' hgrow hat' hms)
     exact ⟨⟨t + 1, F3, by omega, by omega, by go_num, hst3⟩, by simp [intOf]; omega⟩
  ·have htk : R.take t = R.take 40 := by
    by_cases h5 : t = 40
    ·rw [h5]
    ·rw [List.take_of_length_le (by omega), List.take_of_length_le (by omega)]
   rw [htk] at hli hx64
   have hfin := hide (hli.out.bt hx64)
   clear hli hx64
   go_wp2
   all_goals
    go_ret
    exact hfin.out

theorem built_n {w0 w : World} {pa pm : Nat} {nn kk : Int} {s : St} {F : Nat → Prop} {ad : Option Addr} {n c : Nat} {R : List Mk} {B : Nat}
  (hG : AG w pa pm nn kk s F) (hF : ∀ b, F b → w0.heap.size ≤ b) (hpm : w0.heap.size ≤ pm) (h2 : 2 ≤ s.L.length) (hR : ML w0 ad n R B) (hn : n ≤ 1048576) (hB : B ≤ 1048576) (k0 : Below w0.heap.size w0 w) (htab : Tab w0) :
  Calls Tryz.prog 9 #[.pointer (some ⟨pa, 0, none⟩), .slice ad n c] w fun e w' => BT w w' e pa pm nn kk F (runW nn kk (s, [0, 1]) (R.take 40)) := by
 have key : ∀ w', ButF (fun b => b = pm ∨ F b) w w' → Below w0.heap.size w0 w' := fun w' h => k0.trans (h.below (fun b hb => hb.elim (fun e => by omega) (hF b)) k0.size)
 refine built_g hG h2 (fun w' h => hR.below (key w' h)) (fun b off e h0 => ?_) hR.1 hn hB fun w' h => htab.below (key w' h)
 rcases hR.2 with h9 | ⟨b1, o1, e1, h1, _⟩
 ·omega
 ·rw [e1] at e
  cases e
  have := k0.size
  exact ⟨fun hf => by have := hF _ hf; omega, by omega, by omega⟩
end Nt
end Go.Proofs.YtjdghmkolkidpaaGreatDoor

namespace Go.Proofs.YtjdghmkolkidpaaGreatDoor
open Go.RowKit Go.Sort Go.Shelf
open Tm At
namespace Nt

/-- an arena, without its meter; all its blocks lie in F -/
structure AX (w : World) (pa pm : Nat) (L : List Nd) (F : Nat → Prop) : Prop where
 ar : ∃ C nv bm X D, AS w pa pm L C 2097152 nv bm X D ∧ ¬ FF pa bm nv C pm ∧ ∀ b, FF pa bm nv C b → F b
 fl : ∀ b, F b → b < w.heap.size
theorem AG.ax {w : World} {pa pm : Nat} {nn kk : Int} {s : St} {F : Nat → Prop} (h : AG w pa pm nn kk s F) : AX w pa pm s.L F := ⟨h.ar, h.fl⟩
theorem AX.len {w : World} {pa pm : Nat} {L : List Nd} {F : Nat → Prop} (h : AX w pa pm L F) : Calls Tryz.prog 10 #[.pointer (some ⟨pa, 0, none⟩)] w fun e w' => e = .returned (.int .i64 (L.length : Int)) ∧ w' = w := by
 obtain ⟨C, nv, bm, X, D, hA, hpm, hF⟩ := h.ar
 exact len8_n hA
theorem IL.but {w w' : World} {a : Option Addr} {n : Nat} {l : List Int} {G H : Nat → Prop} (h : IL w a n l) (hF : InF H a n) (k : ButF G w w') (hG : ∀ b, H b → b < w.heap.size → ¬ G b) : IL w' a n l :=
 il_move h k.size fun b off e h0 => k.block b (il_lt h e h0) (hG b (hF b off e h0) (il_lt h e h0))
set_option maxRecDepth 100000 in
theorem meter8_n {w : World} {pa pm : Nat} {L : List Nd} {F : Nat → Prop} (h : AX w pa pm L F) : Calls Tryz.prog 11 #[.pointer (some ⟨pa, 0, none⟩)] w fun e w' => e = .returned (.pointer (some ⟨pm, 0, none⟩)) ∧ w' = w := by
 obtain ⟨C, nv, bm, X, D, hA, -, -⟩ := h.ar
 have u0 : w.cell? ⟨pa, 0, none⟩ = some (.pointer (some ⟨pm, 0, none⟩)) := cell_of_row _ pa 0 _ _ (0, 0) hA.blk
 clear hA
 go_enter Tryz.func11, Tryz.ntmps11
 go_wp2
 go_ret
 exact ⟨rfl, rfl⟩
end Nt
end Go.Proofs.YtjdghmkolkidpaaGreatDoor

namespace Go.Proofs.YtjdghmkolkidpaaGreatDoor
open Go.RowKit Go.Sort Go.Shelf
open Tm At
namespace Nt

theorem flat_get : ∀ (X : List NR) (i j : Nat) (h : i < X.length), j < 8 → (X.flatMap NR.enc)[i * 8 + j]? = (X[i].enc)[j]?
 | [], i, j, h, _ => absurd h (Nat.not_lt_zero _)
 | x :: X, 0, j, _, hj => by
  rw [List.flatMap_cons, List.getElem?_append_left (by simp [NR.enc]; omega)]
  simp
 | x :: X, i + 1, j, h, hj => by
  rw [List.flatMap_cons, List.getElem?_append_right (by simp [NR.enc]; omega)]
  have h1 := flat_get X i j (by simpa using h) hj
  rw [show (i + 1) * 8 + j - x.enc.length = i * 8 + j by simp [NR.enc]; omega, h1]
  rfl
/-- the cells of an arena's node -/
theorem AS.cell {w : World} {pa pm : Nat} {L : List Nd} {C : Nat → Prop} {B : Nat} {nv : Value} {bm : Nat} {X : List NR} {D : DataW Value} (h : AS w pa pm L C B nv bm X D) {i : Nat} (hi : i < L.length) :
  ∃ g cap, nv = .slice (some ⟨g, 0, none⟩) L.length cap ∧ ∀ j, j < 8 → ∀ (hX : i < X.length), w.cell? ⟨g, i * 8 + j, none⟩ = (X[i].enc)[j]? := by
 rcases h.row.2 with ⟨_, h0⟩ | ⟨g, cap, cur, e1, _, e3, h1, h2, h3, h4⟩
 ·omega
 ·refine ⟨g, cap, e1, fun j hj hX => ?_⟩
  rw [cell_of_row w g (i * 8 + j) _ _ (0, 0) e3, ← flat_get X i j hX hj, ← h4, List.getElem?_take, if_pos (by omega)]
  simp
/-- what Node answers -/
def ND (w w' : World) (e : Ending) (n : Nd) : Prop :=
 ∃ sd ad ld cd ap np cp sk ak lk ck ka kn kc, e = .returned (.tuple #[.agg #[.int .i64 n.kind, .bool sd, .slice ad ld cd, .slice ap np cp, .bool sk, .slice ak lk ck, .int .i64 n.var, .slice ka kn kc], .bool true]) ∧ Zn w' sd ad ld cd n.d ∧ Pn w' ap np n.ps 2097152 ∧ Zn w' sk ak lk ck n.k ∧ IL w' ka kn n.kids ∧ New w.heap.size ka kn ∧ Below w.heap.size w w'

set_option maxRecDepth 100000 in
set_option maxHeartbeats 1600000 in
theorem node8_n {w : World} {pa pm : Nat} {L : List Nd} {F : Nat → Prop} (h : AX w pa pm L F) {i : Nat} (hi : i < L.length) (_hL : L.length ≤ 1048576) : Calls Tryz.prog 14 #[.pointer (some ⟨pa, 0, none⟩), .int .i64 (i : Int)] w fun e w' => ND w w' e L[i] := by
 obtain ⟨C, nv, bm, X, D, hA, -, -⟩ := h.ar
 have hlk := hide (lacks_n (hA.below (below_alloc w (.cells #[.int .i64 0, .bool false, .slice none 0 0, .slice none 0 0, .bool false, .slice none 0 0, .int .i64 0, .slice none 0 0] 39))) (i : Int))
 rw [decide_eq_false (by omega)] at hlk
 have hXi : i < X.length := by have := hA.len; omega
 obtain ⟨g, cap, rfl, hcell⟩ := hA.cell hi
 have hN := hA.nodes i hi
 generalize L[i] = n at *
 have hc := fun j hj => hcell j hj hXi
 generalize X[i] = x at *
 have e0 := hc 0 (by decide)
 have e1 := hc 1 (by decide)
 have e2 := hc 2 (by decide)
 have e3 := hc 3 (by decide)
 have e4 := hc 4 (by decide)
 have e5 := hc 5 (by decide)
 have e6 := hc 6 (by decide)
 have e7 := hc 7 (by decide)
 clear hc hcell
 simp only [NR.enc, List.getElem?_cons_zero, List.getElem?_cons_succ, Nat.add_zero] at e0 e1 e2 e3 e4 e5 e6 e7
 have u1 : w.cell? ⟨pa, 1, none⟩ = some (.slice (some ⟨g, 0, none⟩) L.length cap) := cell_of_row _ pa 1 _ _ (0, 0) hA.blk
 have hgl : g < w.heap.size := World.block_lt_of_cell? w _ e0
 have hpl := hA.pal
 have b0 := below_alloc w (.cells #[.int .i64 0, .bool false, .slice none 0 0, .slice none 0 0, .bool false, .slice none 0 0, .int .i64 0, .slice none 0 0] 39)
 have y := NB.new w 0 false none 0 0 none 0 0 false none 0 0 0 none 0 0
 go_enter Tryz.func14, Tryz.ntmps14
 go_wp2_with (go_at_call 33; refine hlk.out.mono ?_; rintro e w1 ⟨rfl, rfl⟩)
 have hsz : (w.alloc (.cells #[.int .i64 0, .bool false, .slice none 0 0, .slice none 0 0, .bool false, .slice none 0 0, .int .i64 0, .slice none 0 0] 39)).heap.size = w.heap.size + 1 := by simp
 refine (copied_n (hN.zd.below b0) hN.hld (hN.pn.pn.below b0) (hN.zk.below b0) hN.hlk (hN.kids.below b0) hN.hnp hN.hkn (Nat.le_refl _)).mono ?_
 rintro e w2 ⟨ad, cd, ap, cp, ak, ck, ka, kc, rfl, hz, hn1, hp, hk, hn2, hI, hn3, k2⟩
 have y2 := y.below k2
 replace k2 := hide (grow_step k2 b0)
 rw [hsz] at hn1 hp hn2 hn3
 have hkd := hN.kd
 have hvr := hN.vr
 clear hA hN hlk h b0 y hsz e0 e1 e2 e3 e4 e5 e6 e7 u1 hgl hpl
 generalize hpe : w.heap.size = p at *
 replace k2 : Hid (Below w.heap.size w w2) := hpe ▸ k2
 have g0 := y2.c0
 have f0 := y2.f 0
 have g1 := y2.c1
 have f1 := y2.f 1
 have g2 := y2.c2
 have f2 := y2.f 2
 have g3 := y2.c3
 have f3 := y2.f 3
 have g4 := y2.c4
 have f4 := y2.f 4
 have g5 := y2.c5
 have f5 := y2.f 5
 have g6 := y2.c6
 have f6 := y2.f 6
 have g7 := y2.c7
 have f7 := y2.f 7
 iterate 6 (first | go_skip | go_guarded | go_step | go_upon | go_simp)
 clear g0 g1 g2 g3 g4 g5 g6 g7 f0 f1 f2 f3 f4 f5 f6 f7
 have hfin := hide (nb_fin y2 n.kind x.sd ad x.ld cd ap x.np cp x.sk ak x.lk ck n.var ka x.kn kc)
 have h8 : Hid (∀ b, b ≠ p → ((((((((w2.setCell ⟨p, 0, none⟩ (.int .i64 n.kind)).setCell ⟨p, 1, none⟩ (.bool x.sd)).setCell ⟨p, 2, none⟩ (.slice ad x.ld cd)).setCell ⟨p, 3, none⟩ (.slice ap x.np cp)).setCell ⟨p, 4, none⟩ (.bool x.sk)).setCell ⟨p, 5, none⟩ (.slice ak x.lk ck)).setCell ⟨p, 6, none⟩ (.int .i64 n.var)).setCell ⟨p, 7, none⟩ (.slice ka x.kn kc)).heap[b]? = w2.heap[b]?) := hide fun b hb => heap_eight hb _ _ _ _ _ _ _ _
 have hs8 : Hid (w2.heap.size ≤ ((((((((w2.setCell ⟨p, 0, none⟩ (.int .i64 n.kind)).setCell ⟨p, 1, none⟩ (.bool x.sd)).setCell ⟨p, 2, none⟩ (.slice ad x.ld cd)).setCell ⟨p, 3, none⟩ (.slice ap x.np cp)).setCell ⟨p, 4, none⟩ (.bool x.sk)).setCell ⟨p, 5, none⟩ (.slice ak x.lk ck)).setCell ⟨p, 6, none⟩ (.int .i64 n.var)).setCell ⟨p, 7, none⟩ (.slice ka x.kn kc)).heap.size) := hide (by simp)
 have kz : Hid (Below w.heap.size w ((((((((w2.setCell ⟨p, 0, none⟩ (.int .i64 n.kind)).setCell ⟨p, 1, none⟩ (.bool x.sd)).setCell ⟨p, 2, none⟩ (.slice ad x.ld cd)).setCell ⟨p, 3, none⟩ (.slice ap x.np cp)).setCell ⟨p, 4, none⟩ (.bool x.sk)).setCell ⟨p, 5, none⟩ (.slice ak x.lk ck)).setCell ⟨p, 6, none⟩ (.int .i64 n.var)).setCell ⟨p, 7, none⟩ (.slice ka x.kn kc))) := hide ((((((((k2.out.setCell (p := ⟨p, 0, none⟩) (show w.heap.size ≤ p by omega) (.int .i64 n.kind)).setCell (p := ⟨p, 1, none⟩) (show w.heap.size ≤ p by omega) (.bool x.sd)).setCell (p := ⟨p, 2, none⟩) (show w.heap.size ≤ p by omega) (.slice ad x.ld cd)).setCell (p := ⟨p, 3, none⟩) (show w.heap.size ≤ p by omega) (.slice ap x.np cp)).setCell (p := ⟨p, 4, none⟩) (show w.heap.size ≤ p by omega) (.bool x.sk)).setCell (p := ⟨p, 5, none⟩) (show w.heap.size ≤ p by omega) (.slice ak x.lk ck)).setCell (p := ⟨p, 6, none⟩) (show w.heap.size ≤ p by omega) (.int .i64 n.var)).setCell (p := ⟨p, 7, none⟩) (show w.heap.size ≤ p by omega) (.slice ka x.kn kc))
 generalize ((((((((w2.setCell ⟨p, 0, none⟩ (.int .i64 n.kind)).setCell ⟨p, 1, none⟩ (.bool x.sd)).setCell ⟨p, 2, none⟩ (.slice ad x.ld cd)).setCell ⟨p, 3, none⟩ (.slice ap x.np cp)).setCell ⟨p, 4, none⟩ (.bool x.sk)).setCell ⟨p, 5, none⟩ (.slice ak x.lk ck)).setCell ⟨p, 6, none⟩ (.int .i64 n.var)).setCell ⟨p, 7, none⟩ (.slice ka x.kn kc)) = w8 at *
 go_wp2
 refine bodyPost_ret (results_ct rfl _ _ p 39 _ (0, 0) _ rfl hfin.out Tryz.underlying39 rfl (by kernel_rfl)) rfl ?_
 refine ⟨x.sd, ad, x.ld, cd, ap, x.np, cp, x.sk, ak, x.lk, ck, ka, x.kn, kc, rfl, zn_move hz hs8.out fun b off e1 h0 => h8.out b (by have := hn1 b off e1 h0; omega), ?_, zn_move hk hs8.out fun b off e1 h0 => h8.out b (by have := hn2 b off e1 h0; omega), il_move hI hs8.out fun b off e1 h0 => h8.out b (by have := hn3 b off e1 h0; omega), fun b off e1 h0 => by have := hn3 b off e1 h0; omega, kz.out⟩
 exact ((hp.move hs8.out fun b hb _ => h8.out b (by omega)).pnF).pn
end Nt
end Go.Proofs.YtjdghmkolkidpaaGreatDoor

namespace Go.Proofs.YtjdghmkolkidpaaGreatDoor
open Go.RowKit Go.Sort Go.Shelf
open Tm At
namespace Nt

theorem zn_limb {w : World} {s : Bool} {a : Option Addr} {l c : Nat} {z : Int} (h : Zn w s a l c z) : l = lim z := by
 obtain ⟨n, ⟨xs, hr, hc, hv⟩, hz, _⟩ := h
 have e := canon_limbs hc
 have hl : l = xs.length := hr.1.symm
 have hn : z.natAbs = (val xs).toNat := by
  have h0 : 0 ≤ n := by rw [← hv]; exact val_nonneg hr.2.2.2.1
  cases s <;> simp [sg] at hz <;> omega
 unfold lim
 rw [hn, ← e, List.length_map, hl]
theorem pn_limb {w : World} {ad : Option Addr} {n : Nat} {ps : List (Int × Int)} {B B' : Nat} (h : Pn w ad n ps B) (hl : ∀ p ∈ ps, lim p.2 ≤ B') : Pn w ad n ps B' := by
 refine ⟨h.1, ?_⟩
 rcases h.2 with h0 | ⟨b, off, e, hb, h2⟩
 ·exact .inl h0
 ·refine .inr ⟨b, off, e, hb, fun i hi => ?_⟩
  obtain ⟨s, a, l, c, c0, c1, c2, hz, _, hi6⟩ := h2 i hi
  exact ⟨s, a, l, c, c0, c1, c2, hz, by rw [zn_limb hz]; exact hl _ (List.getElem_mem hi), hi6⟩
theorem fit_std {f : Atm} (h : Fit f) : Std f.ps := by
 rcases h with ⟨_, _, h, _⟩ | ⟨_, _, h, _⟩ | ⟨_, h, _⟩
 ·rw [h]; exact ⟨by simp, by simp⟩
 ·exact h
 ·exact h.std
theorem atomA_fit {f : Atm} (h : Fit f) : atomA f.kind f.d f.ps f.k = .inr ⟨f.kind, f.d, f.ps, f.k, 0, []⟩ := by
 unfold atomA
 rw [← lays_eq (fit_std h) fun _ => rfl, h.again]

theorem ao_back {w w1 w' : World} {e : Ending} {pa pm : Nat} {nn kk : Int} {F : Nat → Prop} {r : St × Option Int} (k : Below w.heap.size w w1) (h : AO w1 w' e pa pm nn kk F r) : AO w w' e pa pm nn kk F r := by
 obtain ⟨x, er, h1, h2, h3, F', h4, h5, h6⟩ := h
 exact ⟨x, er, h1, h2, h3, F', h4, fun b hb => (h5 b hb).imp id fun h => Nat.le_trans k.size h, ButF.trans (butF_below k) h6 fun _ _ h => h⟩

set_option maxRecDepth 100000 in
set_option maxHeartbeats 3200000 in
theorem remade_n {w : World} {pa pm : Nat} {nn : Int} {s : St} {F : Nat → Prop} {i : Nat} {n : Nd} {sd : Bool} {ad : Option Addr} {ld cd : Nat} {ap : Option Addr} {np cp : Nat} {sk : Bool} {ak : Option Addr} {lk ck : Nat} {ka : Option Addr} {kn kc : Nat} {B : Nat}
  (hG : AG w pa pm nn 8 s F) (hi : s.L[i]? = some n) (hg : Gd 8 i n) (hd : Zn w sd ad ld cd n.d) (hP : Pn w ap np n.ps B) (hk : Zn w sk ak lk ck n.k) (hI : IL w ka kn n.kids) (hnF : InF (fun b => ¬ F b ∧ b ≠ pm) ka kn) (htab : Tab w) :
  Calls Tryz.prog 15 #[.pointer (some ⟨pa, 0, none⟩), .agg #[.int .i64 n.kind, .bool sd, .slice ad ld cd, .slice ap np cp, .bool sk, .slice ak lk ck, .int .i64 n.var, .slice ka kn kc]] w fun e w' => AO w w' e pa pm nn 8 F (s, some (i : Int)) := by
 have hput : put nn 8 s n = (s, some (i : Int)) := put_found hG.uq hi
 have hil := (List.getElem?_eq_some_iff.1 hi).1
 have b0 := below_alloc w (.cells #[.int .i64 n.kind, .bool sd, .slice ad ld cd, .slice ap np cp, .bool sk, .slice ak lk ck, .int .i64 n.var, .slice ka kn kc] 39)
 have y := NB.new w n.kind sd ad ld cd ap np cp sk ak lk ck n.var ka kn kc
 have u0 := y.c0
 have u1 := y.c1
 have u2 := y.c2
 have u3 := y.c3
 have u4 := y.c4
 have u5 := y.c5
 have u6 := y.c6
 have u7 := y.c7
 have hG1 := hide (hG.below b0)
 have ht1 := hide (htab.below b0)
 rcases hg with ⟨f, hf, rfl, hpl, hlim⟩ | ⟨kd, kids, hkd, rfl, h2, h5, hris, hlt⟩ | ⟨kd, v, x, hkd, rfl, hv0, hv4, hx0, hxi⟩
 ·dsimp only at hd hP hk hI u0 u6 b0 y hG1 ht1 ⊢
  have hfk := fit_kind hf
  have h5 : (f.kind == 5) = false := by simp; omega
  have h6 : (f.kind == 6) = false := by simp; omega
  have h7 : (f.kind == 7) = false := by simp; omega
  have h8 : (f.kind == 8) = false := by simp; omega
  have hld : ld ≤ 8 := by rw [zn_limb hd]; have := hlim f.d (by simp [nums]); omega
  have hlk : lk ≤ 8 := by rw [zn_limb hk]; have := hlim f.k (by simp [nums]); omega
  have hP8 : Pn w ap np f.ps 8 := pn_limb hP fun p hp => by have := hlim p.2 (by simp only [nums]; exact List.mem_cons_of_mem _ (List.mem_cons_of_mem _ (List.mem_map.2 ⟨p, hp, rfl⟩))); omega
  have hnp : np ≤ 209716 := by have := hP.1; omega
  have hat := hide (atom_ao (kd := f.kind) (cp := cp) hG1.out (hd.below b0).zm hld (hP8.below b0).pr (hk.below b0).zm hlk hnp (by omega) ht1.out)
  rw [atomA_fit hf] at hat
  have hat2 : Hid (∀ e w', AO (w.alloc (.cells #[.int .i64 f.kind, .bool sd, .slice ad ld cd, .slice ap np cp, .bool sk, .slice ak lk ck, .int .i64 0, .slice ka kn kc] 39)) w' e pa pm nn 8 F (asked nn 8 s (.inr ⟨f.kind, f.d, f.ps, f.k, 0, []⟩)) → AO w w' e pa pm nn 8 F (s, some (i : Int))) := hide fun e w' h => ao_back b0 (hput ▸ h)
  clear hd hP hk hI hP8 hG hG1 htab ht1 b0 y hput
  go_enter Tryz.func15, Tryz.ntmps15
  go_wp2_with fail
  refine hat.out.mono ?_
  intro e w3 hAO
  replace hAO := hat2.out e w3 hAO
  clear hat hat2
  obtain ⟨ra, rb, rfl⟩ : ∃ ra rb : Int, e = .returned (.tuple #[.int .i64 ra, .int .i64 rb]) := by
   obtain ⟨x, er, e1, _⟩ := hAO
   exact ⟨x, er, e1⟩
  replace hAO := hide hAO
  go_wp2
  refine bodyPost_ret (results_tmp2 rfl _ _ _) rfl ?_
  exact hAO.out
 ·dsimp only at hd hP hk hI u0 u6 b0 y hG1 ht1 ⊢
  rcases hkd with rfl | rfl
  ·have hjo := hide (join_ao (kd := 5) (kc := kc) (l := kids) (.inl rfl) hG1.out (hI.below b0 |> fun h => (by have := h.1; rw [this]; exact h)) (by omega) (fun x hx => by have := hlt x hx; omega) ht1.out)
   have hkl : kids.length = kn := hI.1
   rw [hkl] at hjo
   have hjA : joinA 5 kids = .inr ⟨5, 0, [], 0, 0, kids⟩ := by
    unfold joinA
    rw [ris_id hris]
    match kids, h2 with
    | a :: b :: t, _ => rfl
   rw [hjA] at hjo
   have hat2 : Hid (∀ e w', AO (w.alloc (.cells #[.int .i64 5, .bool sd, .slice ad ld cd, .slice ap np cp, .bool sk, .slice ak lk ck, .int .i64 0, .slice ka kn kc] 39)) w' e pa pm nn 8 F (asked nn 8 s (.inr ⟨5, 0, [], 0, 0, kids⟩)) → AO w w' e pa pm nn 8 F (s, some (i : Int))) := hide fun e w' h => ao_back b0 (hput ▸ h)
   clear hd hP hk hI hG hG1 htab ht1 b0 y hput
   go_enter Tryz.func15, Tryz.ntmps15
   go_wp2_with fail
   refine hjo.out.mono ?_
   intro e w3 hAO
   replace hAO := hat2.out e w3 hAO
   clear hjo hat2
   obtain ⟨ra, rb, rfl⟩ : ∃ ra rb : Int, e = .returned (.tuple #[.int .i64 ra, .int .i64 rb]) := by
    obtain ⟨x, er, e1, _⟩ := hAO
    exact ⟨x, er, e1⟩
   replace hAO := hide hAO
   go_wp2
   refine bodyPost_ret (results_tmp2 rfl _ _ _) rfl ?_
   exact hAO.out
  ·have hjo := hide (join_ao (kd := 6) (kc := kc) (l := kids) (.inr rfl) hG1.out (hI.below b0 |> fun h => (by have := h.1; rw [this]; exact h)) (by omega) (fun x hx => by have := hlt x hx; omega) ht1.out)
   have hkl : kids.length = kn := hI.1
   rw [hkl] at hjo
   have hjA : joinA 6 kids = .inr ⟨6, 0, [], 0, 0, kids⟩ := by
    unfold joinA
    rw [ris_id hris]
    match kids, h2 with
    | a :: b :: t, _ => rfl
   rw [hjA] at hjo
   have hat2 : Hid (∀ e w', AO (w.alloc (.cells #[.int .i64 6, .bool sd, .slice ad ld cd, .slice ap np cp, .bool sk, .slice ak lk ck, .int .i64 0, .slice ka kn kc] 39)) w' e pa pm nn 8 F (asked nn 8 s (.inr ⟨6, 0, [], 0, 0, kids⟩)) → AO w w' e pa pm nn 8 F (s, some (i : Int))) := hide fun e w' h => ao_back b0 (hput ▸ h)
   clear hd hP hk hI hG hG1 htab ht1 b0 y hput
   go_enter Tryz.func15, Tryz.ntmps15
   go_wp2_with fail
   refine hjo.out.mono ?_
   intro e w3 hAO
   replace hAO := hat2.out e w3 hAO
   clear hjo hat2
   obtain ⟨ra, rb, rfl⟩ : ∃ ra rb : Int, e = .returned (.tuple #[.int .i64 ra, .int .i64 rb]) := by
    obtain ⟨x, er, e1, _⟩ := hAO
    exact ⟨x, er, e1⟩
   replace hAO := hide hAO
   go_wp2
   refine bodyPost_ret (results_tmp2 rfl _ _ _) rfl ?_
   exact hAO.out
 ·dsimp only at hd hP hk hI u0 u6 b0 y hG1 ht1 ⊢
  rcases hkd with rfl | rfl
  ·have hkl : 0 < kn := by have := hI.1; simp at this; omega
   rcases hI.2 with h0 | ⟨bK, oK, rfl, hbK, hcK⟩
   ·omega
   have cK := (hcK 0 (by simp)).1
   simp only [Nat.add_zero, List.getElem_cons_zero] at cK
   have hbF := hnF bK oK rfl hkl
   have hat2 : Hid (∀ e w', AO (w.alloc (.cells #[.int .i64 7, .bool sd, .slice ad ld cd, .slice ap np cp, .bool sk, .slice ak lk ck, .int .i64 v, .slice (some ⟨bK, oK, none⟩) kn kc] 39)) w' e pa pm nn 8 F (asked nn 8 s (.inr ⟨7, 0, [], 0, v, [x]⟩)) → AO w w' e pa pm nn 8 F (s, some (i : Int))) := hide fun e w' h => ao_back b0 (hput ▸ h)
   have hml := hG.mb.lt
   have hFl := hG.fl
   replace cK := (b0.cell (p := ⟨bK, oK, none⟩) hbK).trans cK
   have hbK2 : bK < (w.alloc (.cells #[.int .i64 7, .bool sd, .slice ad ld cd, .slice ap np cp, .bool sk, .slice ak lk ck, .int .i64 v, .slice (some ⟨bK, oK, none⟩) kn kc] 39)).heap.size := Nat.lt_of_lt_of_le hbK b0.size
   clear hd hP hk hI hG htab b0 hput hcK hnF
   go_enter Tryz.func15, Tryz.ntmps15
   go_wp2_with fail
   clear u0 u1 u2 u3 u4 u5 u6 u7
   generalize w.alloc (.cells #[.int .i64 7, .bool sd, .slice ad ld cd, .slice ap np cp, .bool sk, .slice ak lk ck, .int .i64 v, .slice (some ⟨bK, oK, none⟩) kn kc] 39) = w1 at *
   generalize hpe : w.heap.size = p at *
   have kD := grow_drew (Below.refl w1.heap.size w1)
   refine wp_region_held_drew (S := (fun w' => w'.cell? ⟨p, 0, none⟩ = some (.int .i64 7) ∧ w'.cell? ⟨p, 6, none⟩ = some (.int .i64 v) ∧ w'.cell? ⟨p, 7, none⟩ = some (.slice (some ⟨bK, oK, none⟩) kn kc) ∧ w'.cell? ⟨bK, oK, none⟩ = some (.int .i64 x))) (by kernel_rfl) (⟨(y.below kD).c0, (y.below kD).c6, (y.below kD).c7, (kD.cell (p := ⟨bK, oK, none⟩) hbK2).trans cK⟩) (fun hHeld => ?_)
   show wpAnyH _ _ _ _ _ 14 _ _ _
   refine wpAnyH_take (i := 0) (oi := ⟨some 30, _, _, _, _, _⟩) (v := ?_) rfl (by kernel_rfl) (by kernel_rfl) (by kernel_rfl) (fun _ _ _ h => h) (Or.inl ⟨by rfl, ?_⟩) (by assumption) ?_
   rotate_left
   ·intro wq hSw; (try dsimp only at hSw); go_simp; (try with_reducible rfl)
   (try simp only [Act.put, List.setIfInBounds_toArray, List.set_cons_zero, List.set_cons_succ])
   refine wpAnyH_take (i := 1) (oi := ⟨some 31, _, _, _, _, _⟩) (v := ?_) rfl (by kernel_rfl) (by kernel_rfl) (by kernel_rfl) (fun _ _ _ h => h) (Or.inl ⟨by rfl, ?_⟩) (by assumption) ?_
   rotate_left
   ·intro wq hSw; (try dsimp only at hSw); go_simp; (try with_reducible rfl)
   (try simp only [Act.put, List.setIfInBounds_toArray, List.set_cons_zero, List.set_cons_succ])
   refine wpAnyH_take (i := 2) (oi := ⟨some 32, _, _, _, _, _⟩) (v := ?_) rfl (by kernel_rfl) (by kernel_rfl) (by kernel_rfl) (fun _ _ _ h => h) (Or.inl ⟨by rfl, ?_⟩) (by assumption) ?_
   rotate_left
   ·intro wq hSw; (try dsimp only at hSw); go_simp; (try with_reducible rfl)
   (try simp only [Act.put, List.setIfInBounds_toArray, List.set_cons_zero, List.set_cons_succ])
   refine wpAnyH_take (i := 3) (oi := ⟨some 33, _, _, _, _, _⟩) (v := ?_) rfl (by kernel_rfl) (by kernel_rfl) (by kernel_rfl) (fun _ _ _ h => h) (Or.inl ⟨by rfl, ?_⟩) (by assumption) ?_
   rotate_left
   ·intro wq hSw; (try dsimp only at hSw); go_simp; (try with_reducible rfl)
   (try simp only [Act.put, List.setIfInBounds_toArray, List.set_cons_zero, List.set_cons_succ])
   refine wpAnyH_take (i := 4) (oi := ⟨some 34, _, _, _, _, _⟩) (v := ?_) rfl (by kernel_rfl) (by kernel_rfl) (by kernel_rfl) (fun _ _ _ h => h) (Or.inl ⟨by rfl, ?_⟩) (by assumption) ?_
   rotate_left
   ·intro wq hSw; (try dsimp only at hSw); go_simp; (try with_reducible rfl)
   (try simp only [Act.put, List.setIfInBounds_toArray, List.set_cons_zero, List.set_cons_succ])
   refine wpAnyH_take (i := 5) (oi := ⟨some 35, _, _, _, _, _⟩) (v := ?_) rfl (by kernel_rfl) (by kernel_rfl) (by kernel_rfl) (fun _ _ _ h => h) (Or.inl ⟨by rfl, ?_⟩) (by assumption) ?_
   rotate_left
   ·intro wq hSw; (try dsimp only at hSw); go_simp; (try with_reducible rfl)
   (try simp only [Act.put, List.setIfInBounds_toArray, List.set_cons_zero, List.set_cons_succ])
   refine wpAnyH_take (i := 6) (oi := ⟨some 36, _, _, _, _, _⟩) (v := ?_) rfl (by kernel_rfl) (by kernel_rfl) (by kernel_rfl) (fun _ _ _ h => h) (Or.inl ⟨by rfl, ?_⟩) (by assumption) ?_
   rotate_left
   ·intro wq hSw; (try dsimp only at hSw); go_simp; (try with_reducible rfl)
   (try simp only [Act.put, List.setIfInBounds_toArray, List.set_cons_zero, List.set_cons_succ])
   refine wpAnyH_take (i := 7) (oi := ⟨some 37, _, _, _, _, _⟩) (v := ?_) rfl (by kernel_rfl) (by kernel_rfl) (by kernel_rfl) (fun _ _ _ h => h) (Or.inl ⟨by rfl, ?_⟩) (by assumption) ?_
   rotate_left
   ·intro wq hSw; (try dsimp only at hSw); go_simp; (try with_reducible rfl)
   (try simp only [Act.put, List.setIfInBounds_toArray, List.set_cons_zero, List.set_cons_succ])
   refine wpAnyH_take (i := 8) (oi := ⟨some 38, _, _, _, _, _⟩) (v := ?_) rfl (by kernel_rfl) (by kernel_rfl) (by kernel_rfl) (fun _ _ _ h => h) (Or.inl ⟨by rfl, ?_⟩) (by assumption) ?_
   rotate_left
   ·intro wq hSw; (try dsimp only at hSw); go_simp; (try with_reducible rfl)
   (try simp only [Act.put, List.setIfInBounds_toArray, List.set_cons_zero, List.set_cons_succ])
   refine wpAnyH_ready (rs := [9]) (by kernel_rfl) (by simp) ?_
   refine AllReadyH.cons (o := ⟨some 39, _, _, _, _, _⟩) rfl (fun K hK => ?_) AllReadyH.nil
   go_simp
   refine Calls.mono (bind_ao (kd := 7) (.inl rfl) (hG1.out.below kD) (by unfold I64; omega) (show 0 ≤ x ∧ x < (s.L.length : Int) by omega) (ht1.out.below kD)) ?_
   intro e w3 hAO
   obtain ⟨ra, rb, rfl⟩ : ∃ ra rb : Int, e = .returned (.tuple #[.int .i64 ra, .int .i64 rb]) := by obtain ⟨x, er, e1, _⟩ := hAO; exact ⟨x, er, e1⟩
   have hB3 : ButF (fun b => b = pm ∨ F b) w1.drew w3 := by obtain ⟨_, _, _, _, _, _, _, _, h9⟩ := hAO; exact h9
   have hq : w3.heap[p]? = w1.heap[p]? := (hB3.block p (Nat.lt_of_lt_of_le y.lt kD.size) fun hf => by rcases hf with rfl | hf; omega; have := hFl p hf; omega).trans (kD.block p y.lt)
   have hqK : w3.heap[bK]? = w1.heap[bK]? := (hB3.block bK (Nat.lt_of_lt_of_le hbK2 kD.size) fun hf => by rcases hf with hf | hf; exact hbF.2 hf; exact hbF.1 hf).trans (kD.block bK hbK2)
   have y3 : NB w3 p 7 sd ad ld cd ap np cp sk ak lk ck v (some ⟨bK, oK, none⟩) kn kc := hq.trans y
   have cK3 := (World.cell?_of_block (a := ⟨bK, oK, none⟩) hqK).trans cK
   replace hAO := hide (hat2.out _ _ (ao_back kD hAO))
   (try go_wp2_with fail)
   refine hK.out _ _ ?_ ?_
   ·(try dsimp only); exact ⟨y3.c0, y3.c6, y3.c7, cK3⟩
   clear hK K hHeld; intro hHeld
   (try simp only [Act.put, List.setIfInBounds_toArray, List.set_cons_zero, List.set_cons_succ])
   refine wpAnyH_take (i := 10) (oi := ⟨some 40, _, _, _, _, _⟩) (v := ?_) rfl (by kernel_rfl) (by kernel_rfl) (by kernel_rfl) (fun _ _ _ h => h) (Or.inl ⟨by rfl, ?_⟩) (by assumption) ?_
   rotate_left
   ·intro wq hSw; (try dsimp only at hSw); go_simp; (try with_reducible rfl)
   (try simp only [Act.put, List.setIfInBounds_toArray, List.set_cons_zero, List.set_cons_succ])
   refine wpAnyH_take (i := 11) (oi := ⟨some 41, _, _, _, _, _⟩) (v := ?_) rfl (by kernel_rfl) (by kernel_rfl) (by kernel_rfl) (fun _ _ _ h => h) (Or.inl ⟨by rfl, ?_⟩) (by assumption) ?_
   rotate_left
   ·intro wq hSw; (try dsimp only at hSw); go_simp; (try with_reducible rfl)
   (try simp only [Act.put, List.setIfInBounds_toArray, List.set_cons_zero, List.set_cons_succ])
   refine wpAnyH_ready (rs := [12]) (by kernel_rfl) (by simp) ?_
   refine AllReadyH.cons (o := ⟨some 4, _, _, _, _, _⟩) rfl (fun K hK => ?_) AllReadyH.nil
   go_simp
   refine hK.out _ _ ?_ ?_
   ·(try dsimp only); exact ⟨y3.c0, y3.c6, y3.c7, cK3⟩
   clear hK K hHeld; intro hHeld
   (try simp only [Act.put, List.setIfInBounds_toArray, List.set_cons_zero, List.set_cons_succ])
   refine wpAnyH_ready (rs := [13]) (by kernel_rfl) (by simp) ?_
   refine AllReadyH.cons (o := ⟨some 5, _, _, _, _, _⟩) rfl (fun K hK => ?_) AllReadyH.nil
   go_simp
   refine hK.out _ _ ?_ ?_
   ·(try dsimp only); exact ⟨y3.c0, y3.c6, y3.c7, cK3⟩
   clear hK K hHeld; intro hHeld
   (try simp only [Act.put, List.setIfInBounds_toArray, List.set_cons_zero, List.set_cons_succ])
   refine wpAnyH_done (by kernel_rfl) ?_ _
   go_wp2
   refine bodyPost_ret (results_tmp2 rfl _ _ _) rfl ?_
   exact hAO.out
  ·have hkl : 0 < kn := by have := hI.1; simp at this; omega
   rcases hI.2 with h0 | ⟨bK, oK, rfl, hbK, hcK⟩
   ·omega
   have cK := (hcK 0 (by simp)).1
   simp only [Nat.add_zero, List.getElem_cons_zero] at cK
   have hbF := hnF bK oK rfl hkl
   have hat2 : Hid (∀ e w', AO (w.alloc (.cells #[.int .i64 8, .bool sd, .slice ad ld cd, .slice ap np cp, .bool sk, .slice ak lk ck, .int .i64 v, .slice (some ⟨bK, oK, none⟩) kn kc] 39)) w' e pa pm nn 8 F (asked nn 8 s (.inr ⟨8, 0, [], 0, v, [x]⟩)) → AO w w' e pa pm nn 8 F (s, some (i : Int))) := hide fun e w' h => ao_back b0 (hput ▸ h)
   have hml := hG.mb.lt
   have hFl := hG.fl
   replace cK := (b0.cell (p := ⟨bK, oK, none⟩) hbK).trans cK
   have hbK2 : bK < (w.alloc (.cells #[.int .i64 8, .bool sd, .slice ad ld cd, .slice ap np cp, .bool sk, .slice ak lk ck, .int .i64 v, .slice (some ⟨bK, oK, none⟩) kn kc] 39)).heap.size := Nat.lt_of_lt_of_le hbK b0.size
   clear hd hP hk hI hG htab b0 hput hcK hnF
   go_enter Tryz.func15, Tryz.ntmps15
   go_wp2_with fail
   clear u0 u1 u2 u3 u4 u5 u6 u7
   generalize w.alloc (.cells #[.int .i64 8, .bool sd, .slice ad ld cd, .slice ap np cp, .bool sk, .slice ak lk ck, .int .i64 v, .slice (some ⟨bK, oK, none⟩) kn kc] 39) = w1 at *
   generalize hpe : w.heap.size = p at *
   have kD := grow_drew (Below.refl w1.heap.size w1)
   refine wp_region_held_drew (S := (fun w' => w'.cell? ⟨p, 0, none⟩ = some (.int .i64 8) ∧ w'.cell? ⟨p, 6, none⟩ = some (.int .i64 v) ∧ w'.cell? ⟨p, 7, none⟩ = some (.slice (some ⟨bK, oK, none⟩) kn kc) ∧ w'.cell? ⟨bK, oK, none⟩ = some (.int .i64 x))) (by kernel_rfl) (⟨(y.below kD).c0, (y.below kD).c6, (y.below kD).c7, (kD.cell (p := ⟨bK, oK, none⟩) hbK2).trans cK⟩) (fun hHeld => ?_)
   show wpAnyH _ _ _ _ _ 14 _ _ _
   refine wpAnyH_take (i := 0) (oi := ⟨some 30, _, _, _, _, _⟩) (v := ?_) rfl (by kernel_rfl) (by kernel_rfl) (by kernel_rfl) (fun _ _ _ h => h) (Or.inl ⟨by rfl, ?_⟩) (by assumption) ?_
   rotate_left
   ·intro wq hSw; (try dsimp only at hSw); go_simp; (try with_reducible rfl)
   (try simp only [Act.put, List.setIfInBounds_toArray, List.set_cons_zero, List.set_cons_succ])
   refine wpAnyH_take (i := 1) (oi := ⟨some 31, _, _, _, _, _⟩) (v := ?_) rfl (by kernel_rfl) (by kernel_rfl) (by kernel_rfl) (fun _ _ _ h => h) (Or.inl ⟨by rfl, ?_⟩) (by assumption) ?_
   rotate_left
   ·intro wq hSw; (try dsimp only at hSw); go_simp; (try with_reducible rfl)
   (try simp only [Act.put, List.setIfInBounds_toArray, List.set_cons_zero, List.set_cons_succ])
   refine wpAnyH_take (i := 2) (oi := ⟨some 32, _, _, _, _, _⟩) (v := ?_) rfl (by kernel_rfl) (by kernel_rfl) (by kernel_rfl) (fun _ _ _ h => h) (Or.inl ⟨by rfl, ?_⟩) (by assumption) ?_
   rotate_left
   ·intro wq hSw; (try dsimp only at hSw); go_simp; (try with_reducible rfl)
   (try simp only [Act.put, List.setIfInBounds_toArray, List.set_cons_zero, List.set_cons_succ])
   refine wpAnyH_take (i := 3) (oi := ⟨some 33, _, _, _, _, _⟩) (v := ?_) rfl (by kernel_rfl) (by kernel_rfl) (by kernel_rfl) (fun _ _ _ h => h) (Or.inl ⟨by rfl, ?_⟩) (by assumption) ?_
   rotate_left
   ·intro wq hSw; (try dsimp only at hSw); go_simp; (try with_reducible rfl)
   (try simp only [Act.put, List.setIfInBounds_toArray, List.set_cons_zero, List.set_cons_succ])
   refine wpAnyH_take (i := 4) (oi := ⟨some 34, _, _, _, _, _⟩) (v := ?_) rfl (by kernel_rfl) (by kernel_rfl) (by kernel_rfl) (fun _ _ _ h => h) (Or.inl ⟨by rfl, ?_⟩) (by assumption) ?_
   rotate_left
   ·intro wq hSw; (try dsimp only at hSw); go_simp; (try with_reducible rfl)
   (try simp only [Act.put, List.setIfInBounds_toArray, List.set_cons_zero, List.set_cons_succ])
   refine wpAnyH_take (i := 5) (oi := ⟨some 35, _, _, _, _, _⟩) (v := ?_) rfl (by kernel_rfl) (by kernel_rfl) (by kernel_rfl) (fun _ _ _ h => h) (Or.inl ⟨by rfl, ?_⟩) (by assumption) ?_
   rotate_left
   ·intro wq hSw; (try dsimp only at hSw); go_simp; (try with_reducible rfl)
   (try simp only [Act.put, List.setIfInBounds_toArray, List.set_cons_zero, List.set_cons_succ])
   refine wpAnyH_take (i := 6) (oi := ⟨some 36, _, _, _, _, _⟩) (v := ?_) rfl (by kernel_rfl) (by kernel_rfl) (by kernel_rfl) (fun _ _ _ h => h) (Or.inl ⟨by rfl, ?_⟩) (by assumption) ?_
   rotate_left
   ·intro wq hSw; (try dsimp only at hSw); go_simp; (try with_reducible rfl)
   (try simp only [Act.put, List.setIfInBounds_toArray, List.set_cons_zero, List.set_cons_succ])
   refine wpAnyH_take (i := 7) (oi := ⟨some 37, _, _, _, _, _⟩) (v := ?_) rfl (by kernel_rfl) (by kernel_rfl) (by kernel_rfl) (fun _ _ _ h => h) (Or.inl ⟨by rfl, ?_⟩) (by assumption) ?_
   rotate_left
   ·intro wq hSw; (try dsimp only at hSw); go_simp; (try with_reducible rfl)
   (try simp only [Act.put, List.setIfInBounds_toArray, List.set_cons_zero, List.set_cons_succ])
   refine wpAnyH_take (i := 8) (oi := ⟨some 38, _, _, _, _, _⟩) (v := ?_) rfl (by kernel_rfl) (by kernel_rfl) (by kernel_rfl) (fun _ _ _ h => h) (Or.inl ⟨by rfl, ?_⟩) (by assumption) ?_
   rotate_left
   ·intro wq hSw; (try dsimp only at hSw); go_simp; (try with_reducible rfl)
   (try simp only [Act.put, List.setIfInBounds_toArray, List.set_cons_zero, List.set_cons_succ])
   refine wpAnyH_ready (rs := [9]) (by kernel_rfl) (by simp) ?_
   refine AllReadyH.cons (o := ⟨some 39, _, _, _, _, _⟩) rfl (fun K hK => ?_) AllReadyH.nil
   go_simp
   refine Calls.mono (bind_ao (kd := 8) (.inr rfl) (hG1.out.below kD) (by unfold I64; omega) (show 0 ≤ x ∧ x < (s.L.length : Int) by omega) (ht1.out.below kD)) ?_
   intro e w3 hAO
   obtain ⟨ra, rb, rfl⟩ : ∃ ra rb : Int, e = .returned (.tuple #[.int .i64 ra, .int .i64 rb]) := by obtain ⟨x, er, e1, _⟩ := hAO; exact ⟨x, er, e1⟩
   have hB3 : ButF (fun b => b = pm ∨ F b) w1.drew w3 := by obtain ⟨_, _, _, _, _, _, _, _, h9⟩ := hAO; exact h9
   have hq : w3.heap[p]? = w1.heap[p]? := (hB3.block p (Nat.lt_of_lt_of_le y.lt kD.size) fun hf => by rcases hf with rfl | hf; omega; have := hFl p hf; omega).trans (kD.block p y.lt)
   have hqK : w3.heap[bK]? = w1.heap[bK]? := (hB3.block bK (Nat.lt_of_lt_of_le hbK2 kD.size) fun hf => by rcases hf with hf | hf; exact hbF.2 hf; exact hbF.1 hf).trans (kD.block bK hbK2)
   have y3 : NB w3 p 8 sd ad ld cd ap np cp sk ak lk ck v (some ⟨bK, oK, none⟩) kn kc := hq.trans y
   have cK3 := (World.cell?_of_block (a := ⟨bK, oK, none⟩) hqK).trans cK
   replace hAO := hide (hat2.out _ _ (ao_back kD hAO))
   (try go_wp2_with fail)
   refine hK.out _ _ ?_ ?_
   ·(try dsimp only); exact ⟨y3.c0, y3.c6, y3.c7, cK3⟩
   clear hK K hHeld; intro hHeld
   (try simp only [Act.put, List.setIfInBounds_toArray, List.set_cons_zero, List.set_cons_succ])
   refine wpAnyH_take (i := 10) (oi := ⟨some 40, _, _, _, _, _⟩) (v := ?_) rfl (by kernel_rfl) (by kernel_rfl) (by kernel_rfl) (fun _ _ _ h => h) (Or.inl ⟨by rfl, ?_⟩) (by assumption) ?_
   rotate_left
   ·intro wq hSw; (try dsimp only at hSw); go_simp; (try with_reducible rfl)
   (try simp only [Act.put, List.setIfInBounds_toArray, List.set_cons_zero, List.set_cons_succ])
   refine wpAnyH_take (i := 11) (oi := ⟨some 41, _, _, _, _, _⟩) (v := ?_) rfl (by kernel_rfl) (by kernel_rfl) (by kernel_rfl) (fun _ _ _ h => h) (Or.inl ⟨by rfl, ?_⟩) (by assumption) ?_
   rotate_left
   ·intro wq hSw; (try dsimp only at hSw); go_simp; (try with_reducible rfl)
   (try simp only [Act.put, List.setIfInBounds_toArray, List.set_cons_zero, List.set_cons_succ])
   refine wpAnyH_ready (rs := [12]) (by kernel_rfl) (by simp) ?_
   refine AllReadyH.cons (o := ⟨some 4, _, _, _, _, _⟩) rfl (fun K hK => ?_) AllReadyH.nil
   go_simp
   refine hK.out _ _ ?_ ?_
   ·(try dsimp only); exact ⟨y3.c0, y3.c6, y3.c7, cK3⟩
   clear hK K hHeld; intro hHeld
   (try simp only [Act.put, List.setIfInBounds_toArray, List.set_cons_zero, List.set_cons_succ])
   refine wpAnyH_ready (rs := [13]) (by kernel_rfl) (by simp) ?_
   refine AllReadyH.cons (o := ⟨some 5, _, _, _, _, _⟩) rfl (fun K hK => ?_) AllReadyH.nil
   go_simp
   refine hK.out _ _ ?_ ?_
   ·(try dsimp only); exact ⟨y3.c0, y3.c6, y3.c7, cK3⟩
   clear hK K hHeld; intro hHeld
   (try simp only [Act.put, List.setIfInBounds_toArray, List.set_cons_zero, List.set_cons_succ])
   refine wpAnyH_done (by kernel_rfl) ?_ _
   go_wp2
   refine bodyPost_ret (results_tmp2 rfl _ _ _) rfl ?_
   exact hAO.out
end Nt
end Go.Proofs.YtjdghmkolkidpaaGreatDoor

namespace Go.Proofs.YtjdghmkolkidpaaGreatDoor
open Go.RowKit Go.Sort Go.Shelf
open Tm At
open Nt

theorem ml_sm {w : World} {ad : Option Addr} {n : Nat} {R : List Mk} {B : Nat} (h : ML w ad n R B) : ∀ m ∈ R, Sm m := by
 intro m hm
 obtain ⟨i, hi, rfl⟩ := List.getElem_of_mem hm
 rcases h.2 with h0 | ⟨b, off, _, _, h2⟩
 ·have := h.1
  omega
 ·obtain ⟨sd, ad, ld, cd, ap, np, cp, sk, ak, lk, ck, ka, kn, kc, _, _, _, hP, hnp, _⟩ := h2 i hi
  have h3 : (R[i].xp).length = np := hP.1
  have h4 := std_len (std_lays R[i].xp) fun v => csum_nzl R[i].xp v
  unfold Sm
  omega
theorem gd_kids {kk : Int} {i : Nat} {n : Nd} (h : Gd kk i n) : n.kids.length ≤ 5 ∧ (∀ x ∈ n.kids, 0 ≤ x ∧ x < (i : Int)) ∧ n.kids.Pairwise (· < ·) := by
 rcases h with ⟨f, _, rfl, _⟩ | ⟨kd, kids, _, rfl, _, h5, hr, hl⟩ | ⟨kd, v, x, _, rfl, _, _, h0, h1⟩
 ·exact ⟨by simp, by simp, by simp⟩
 ·exact ⟨h5, hl, hr⟩
 ·exact ⟨by simp, fun y hy => by obtain rfl := List.mem_singleton.1 hy; exact ⟨h0, h1⟩, by simp⟩
set_option maxRecDepth 100000 in
set_option maxHeartbeats 6400000 in
theorem arenaOnce_walk {w0 : World} {ad1 : Option Addr} {n1 c1 : Nat} {R1 : List Mk} {B : Nat} (h1 : ML w0 ad1 n1 R1 B) (hn1 : n1 ≤ 1048576) (hB : B ≤ 1048576) (htab : Tab w0) :
  Calls Tryz.prog 3 #[.slice ad1 n1 c1] w0 fun e w' => e = .returned (.bool true) ∧ Below w0.heap.size w0 w' := by
 have hS := ml_sm h1
 go_enter Tryz.func3, Tryz.ntmps3
 go_wp2_with fail
 refine (awake8_n htab).mono ?_
 rintro e v1 ⟨rfl, k1⟩
 have ht1 := hide (htab.below k1)
 go_wp2_with fail
 refine (new_ag ht1.out).mono ?_
 rintro e v2 ⟨pa, pm, Fa, rfl, hGa, hFa, hpm, k2⟩
 have k12 := hide (grow_step k2 k1)
 have s1 := k1.size
 replace hGa := hide hGa
 have iA : Hid (∀ b, Fa b → w0.heap.size ≤ b) := hide fun b hb => by have := hFa b hb; omega
 replace hpm : w0.heap.size ≤ pm := by omega
 have hp2 := hGa.out.mb.lt
 clear k1 k2 ht1 hFa
 go_wp2_with fail
 refine (built_n (nn := 2000) (kk := 8) (s := st0) hGa.out iA.out hpm (by decide) h1 hn1 hB k12.out htab).mono ?_
 rintro e v3 ⟨ax, cx, F3, rfl, hIx, hfx, hG3, hF3, hB3⟩
 generalize hra : runW 2000 8 (st0, [0, 1]) (R1.take 40) = ra at *
 have hgs := run_gs (nn := 2000) (kk := 8) (R1.take 40) (st0_gs 8) (st0_in 0 0) fun m hm => hS m (List.mem_of_mem_take hm)
 have huq := run_uq (nn := 2000) (kk := 8) (R1.take 40) (ids := [0, 1]) st0_uq
 have hcn := run_count 2000 8 (R1.take 40) st0 [0, 1]
 have hrl := run_len 2000 8 (R1.take 40) (st0, [0, 1])
 have h2L : 2 ≤ ra.1.L.length := by
  obtain ⟨⟨t, ht⟩, _⟩ := run_le 2000 8 (R1.take 40) st0 [0, 1]
  rw [hra] at ht
  rw [ht]
  simp [st0]
 have hag := run_again (nn := 2000) (kk := 8) (R1.take 40) (s := st0) (F := ra.1) (ids := [0, 1]) (by rw [← hra]; exact huq) (by rw [hra]; exact Le.refl _)
 rw [hra] at hgs hcn hrl hag
 have hlx : ra.2.length ≤ 42 := by rw [List.length_take] at hrl; simp at hrl; omega
 have hLc : ra.1.c = (ra.1.L.length : Int) - 2 := by simp [st0] at hcn; omega
 have k13 := hide (k12.out.trans (hB3.below (fun b hb => hb.elim (fun e => by omega) (iA.out b)) k12.out.size))
 have s2 := k12.out.size
 have i3 : Hid (∀ b, F3 b → w0.heap.size ≤ b) := hide fun b hb => (hF3 b hb).elim (iA.out b) fun h => by omega
 have hLn : (ra.1.L.length : Int) ≤ 2002 := by have h9 := hG3.ln; have h8 := hG3.cn; omega
 replace hG3 := hide hG3
 replace hIx := hide hIx
 replace hfx := hide hfx
 clear hGa hF3 hB3 hrl hcn huq hra k12 hS
 have l3 := hide hG3.out.ax.len
 go_wp2_with fail
 refine l3.out.mono ?_
 rintro e w9 ⟨rfl, rfl⟩
 clear l3
 go_wp2_with fail
 refine (built_n (nn := 2000) (kk := 8) (s := ra.1) hG3.out i3.out hpm h2L h1 hn1 hB k13.out htab).mono ?_
 rintro e v4 ⟨ay, cy, F4, rfl, hIy, hfy, hG4, hF4, hB4⟩
 rw [hag] at hIy hfy hG4 ⊢
 dsimp only at hIy hfy hG4 ⊢
 have k14 := hide (k13.out.trans (hB4.below (fun b hb => hb.elim (fun e => by omega) (i3.out b)) k13.out.size))
 have s3 := k13.out.size
 have i4 : Hid (∀ b, F4 b → w0.heap.size ≤ b) := hide fun b hb => (hF4 b hb).elim (i3.out b) fun h => by omega
 have hIx4 := hide (hIx.out.but hfx.out hB4 fun b hb _ hf => by rcases hf with rfl | hf; have := hb.1; omega; exact hb.2 hf)
 have l4 := hide hG4.ax.len
 have m4 := hide (meter8_n hG4.ax)
 have sp4 := hide (spent_n hG4.mb hG4.c0 hG4.cn hG4.e0 hG4.e2)
 replace hG4 := hide hG4
 replace hIy := hide hIy
 clear hF4 hB4 hG3 k13 hIx hfx hfy i3 hag
 go_wp2_with fail
 refine l4.out.mono ?_
 rintro e w10 ⟨rfl, rfl⟩
 go_wp2_with fail
 refine m4.out.mono ?_
 rintro e w11 ⟨rfl, rfl⟩
 go_wp2_with fail
 refine sp4.out.mono ?_
 rintro e v5 ⟨rfl, k5⟩
 rw [hLc]
 have k15 := hide (grow_step k5 k14.out)
 have hG5 := hide (hG4.out.below k5)
 replace hIx4 := hide (hIx4.out.below k5)
 replace hIy := hide (hIy.out.below k5)
 clear k5 l4 m4 sp4 hG4 k14
 go_wp2_with fail
 refine (ints_n hIx4.out hIy.out (by omega)).mono ?_
 rintro e v6 ⟨rfl, k6⟩
 rw [decide_eq_true rfl]
 have k16 := hide (grow_step k6 k15.out)
 have hG6 := hide (hG5.out.below k6)
 clear k6 hIx4 hIy k15 hG5
 go_wp2_with fail
 go_loopw [10] (fun i wr => ∃ (t : Nat) (F' : Nat → Prop), 2 ≤ t ∧ t ≤ ra.1.L.length ∧ i = .int .i64 t ∧ Hid (AG wr pa pm 2000 8 ra.1 F') ∧ Hid (∀ b, F' b → w0.heap.size ≤ b) ∧ Hid (Below w0.heap.size w0 wr)) (fun i _ => ra.1.L.length - (intOf i).toNat)
 case atStart => exact ⟨2, F4, Nat.le_refl _, h2L, rfl, hG6, i4, k16⟩
 case round =>
  obtain ⟨t, F7, ht2, htL, rfl, hG7, i7, k17⟩ := hrel
  by_cases htn : t < ra.1.L.length
  ·have hgt : ra.1.L[t]? = some ra.1.L[t] := List.getElem?_eq_getElem htn
   have hgd := hgs.1 t _ ht2 hgt
   have hnd := hide (node8_n hG7.out.ax htn (by omega))
   generalize ra.1.L[t] = nd at *
   go_wp2_with fail
   refine hnd.out.mono ?_
   rintro e v8 ⟨sd, ad, ld, cd, ap, np, cp, sk, ak, lk, ck, ka, kn, kc, rfl, hzd, hPn, hzk, hIk, hnk, k8⟩
   clear hnd
   have hflr := hG7.out.fl
   have hmr := hG7.out.mb.lt
   have hG8 := hide (hG7.out.below k8)
   have k18 := hide (grow_step k8 k17.out)
   have s8 := k8.size
   clear hG7 k8 k17
   go_wp2_with fail
   obtain ⟨hk5, hklt, hkr⟩ := gd_kids hgd
   have y9 := NB.new v8 nd.kind sd ad ld cd ap np cp sk ak lk ck nd.var ka kn kc
   have b9 := below_alloc v8 (.cells #[.int .i64 nd.kind, .bool sd, .slice ad ld cd, .slice ap np cp, .bool sk, .slice ak lk ck, .int .i64 nd.var, .slice ka kn kc] 39)
   have hG9 := hide (hG8.out.below b9)
   have k19 := hide (grow_step b9 k18.out)
   replace hzd := hzd.below b9
   replace hPn := hPn.below b9
   replace hzk := hzk.below b9
   replace hIk := hIk.below b9
   clear b9 hG8 k18
   generalize v8.alloc (.cells #[.int .i64 nd.kind, .bool sd, .slice ad ld cd, .slice ap np cp, .bool sk, .slice ak lk ck, .int .i64 nd.var, .slice ka kn kc] 39) = w9 at *
   generalize v8.heap.size = p at *
   have hkl := hIk.1
   have z7 := y9.c7
   go_loopw [13] (fun k wr => ∃ (q r : Nat), q ≤ kn ∧ k = .int .i64 q ∧ wr = w9.drewN r) (fun k _ => kn - (intOf k).toNat)
   case atStart => exact ⟨0, 0, Nat.zero_le _, rfl, rfl⟩
   case round =>
    obtain ⟨q, r, hqk, rfl, rfl⟩ := hrel
    by_cases hqn : q < kn
    ·rcases hIk.2 with h0 | ⟨bK, oK, rfl, hbK, hcK⟩
     ·omega
     have hql : q < nd.kids.length := by omega
     have cq := (hcK q hql).1
     have hlt := (hklt _ (List.getElem_mem hql)).2
     have hge : (decide ((t : Int) ≤ nd.kids[q]'hql)) = false := by simp; omega
     by_cases hq0 : q = 0
     ·subst hq0
      simp only [Nat.add_zero] at cq
      generalize nd.kids[0]'hql = z at *
      clear hcK hklt hkr
      go_wp2_with fail
      go_quiet (fail)
      go_wp2_with fail
      exact ⟨⟨1, r + nq, by omega, by go_num, rfl⟩, by simp [intOf]; omega⟩
     ·obtain ⟨q1, hsub⟩ : ∃ q1 : Nat, (q : Int) - 1 = (q1 : Int) := ⟨q - 1, by omega⟩
      have hql1 : q1 < nd.kids.length := by omega
      have cq1 := (hcK q1 hql1).1
      have hqpos : 0 < q := by omega
      have hq1k : q1 < kn := by omega
      have hkn5 : kn ≤ 5 := by omega
      have hwr : IntKind.i64.wrap (q1 : Int) = (q1 : Int) := by rw [IntKind.wrap_i64]; omega
      have hqpos2 : decide ((0 : Int) < (q : Int)) = true := by simp; omega
      have hless : nd.kids[q1]'hql1 < nd.kids[q]'hql := List.pairwise_iff_getElem.1 hkr q1 q hql1 hql (by omega)
      have hge2 : (decide (nd.kids[q]'hql ≤ nd.kids[q1]'hql1)) = false := by simp; omega
      generalize nd.kids[q]'hql = z at *
      generalize nd.kids[q1]'hql1 = z1 at *
      clear hcK hklt hkr
      go_wp2_with fail
      go_quiet (fail)
      go_wp2_with fail
      exact ⟨⟨q + 1, r + nq, by omega, by go_num, rfl⟩, by simp [intOf]; omega⟩
    ·obtain rfl : q = kn := by omega
     have kD := below_drewN w9.heap.size w9 r
     have hpmF : InF (fun b => ¬ F7 b ∧ b ≠ pm) ka q := fun b off e h0 => by
      have h9 := hnk b off e h0
      exact ⟨fun hf => by have := hflr b hf; omega, by omega⟩
     have hre := hide (remade_n (cd := cd) (cp := cp) (ck := ck) (kc := kc) (hG9.out.below kD) hgt hgd (hzd.below kD) (hPn.below kD) (hzk.below kD) (hIk.below kD) hpmF (htab.below (grow_step kD k19.out)))
     have k110 := hide (grow_step kD k19.out)
     have z0 := y9.c0
     have z1 := y9.c1
     have z2 := y9.c2
     have z3 := y9.c3
     have z4 := y9.c4
     have z5 := y9.c5
     have z6 := y9.c6
     clear hIk hzd hPn hzk hG9 k19 hklt hkr hk5
     go_wp2_with fail
     refine hre.out.mono ?_
     clear z0 z1 z2 z3 z4 z5 z6 z7
     rintro e v12 ⟨x3, e3, rfl, -, hyes, F12, hG12, hF12, hB12⟩
     obtain ⟨rfl, rfl⟩ := hyes _ rfl
     have k112 := hide (k110.out.trans (hB12.below (fun b hb => hb.elim (fun e => by omega) (i7.out b)) k110.out.size))
     have s110 := k110.out.size
     have i12 : Hid (∀ b, F12 b → w0.heap.size ≤ b) := hide fun b hb => (hF12 b hb).elim (i7.out b) fun h => Nat.le_trans s110 h
     replace hG12 := hide hG12
     clear hyes hF12 hB12 hre k110
     go_wp2
     exact ⟨⟨t + 1, F12, by omega, by omega, by go_num, hG12, i12, k112⟩, by simp [intOf]; omega⟩
  ·obtain rfl : t = ra.1.L.length := by omega
   clear hG7 i7
   go_wp2
   go_ret
   exact ⟨rfl, k17.out⟩
end Go.Proofs.YtjdghmkolkidpaaGreatDoor
