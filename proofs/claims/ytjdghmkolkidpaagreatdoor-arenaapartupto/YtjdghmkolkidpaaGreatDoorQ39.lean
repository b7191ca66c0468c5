/-
 Several texts in one: ES, ET, LArenaApart.
-/
import Derived.Test.YtjdghmkolkidpaaGreatDoorQ38
import Derived.Test.YtjdghmkolkidpaaGreatDoorQ35
namespace Go.Proofs.YtjdghmkolkidpaaGreatDoor
open Go.RowKit Go.Sort Go.Shelf
open Tm At
namespace Nt

theorem own_move {w w' : World} {base : Nat} {ty : TypeId} {st n : Nat} {v : Value} {l : List Value} (h : w.ownsRow base ty st v n l) (hm : ∀ g, v.ownBlock = some g → w'.heap[g]? = w.heap[g]?) : w'.ownsRow base ty st v n l := by
 obtain ⟨h1, h2⟩ := h
 refine ⟨h1, ?_⟩
 rcases h2 with h2 | ⟨g, cap, cur, e1, e2, e3, e4⟩
 ·exact .inl h2
 ·exact .inr ⟨g, cap, cur, e1, e2, (hm g (by rw [e1]; rfl)).trans e3, e4⟩
theorem AG.move {w w' : World} {pa pm : Nat} {nn kk : Int} {s : St} {F : Nat → Prop} (h : AG w pa pm nn kk s F) (hs : w.heap.size ≤ w'.heap.size) (hm : ∀ b, F b ∨ b = pm → w'.heap[b]? = w.heap[b]?) : AG w' pa pm nn kk s F := by
 obtain ⟨⟨C, nv, bm, X, D, h1, h2, h3⟩, h4, h5, h6, h7, h8, h9, h10, h11⟩ := h
 exact ⟨⟨C, nv, bm, X, D, h1.move hs fun b hb => hm b (.inl (h3 b hb)), h2, h3⟩, (hm pm (.inr rfl)).trans h4, h5, h6, h7, h8, h9, h10, fun b hb => Nat.lt_of_lt_of_le (h11 b hb) hs⟩
/-- what 'built' answers: the numbers that the recipe makes as data tell; they lie apart from the arena -/
def BT (w w' : World) (e : Ending) (pa pm : Nat) (nn kk : Int) (F : Nat → Prop) (p : St × List Int) : Prop :=
 ∃ a c F', e = .returned (.slice a p.2.length c) ∧ IL w' a p.2.length p.2 ∧ InF (fun b => w.heap.size ≤ b ∧ ¬ F' b) a p.2.length ∧ AG w' pa pm nn kk p.1 F' ∧ (∀ b, F' b → F b ∨ w.heap.size ≤ b) ∧ ButF (fun b => b = pm ∨ F b) w w'
/-- what the loop of 'built' holds: the numbers so far, in a row of their own apart from the arena -/
structure LI (w wr : World) (pa pm : Nat) (nn kk : Int) (F : Nat → Prop) (p : St × List Int) (vv : Value) (F' : Nat → Prop) : Prop where
 row : wr.ownsRow w.heap.size 3 1 vv p.2.length (p.2.map (Value.int .i64))
 apart : ∀ g, vv.ownBlock = some g → ¬ F' g
 ag : AG wr pa pm nn kk p.1 F'
 sub : ∀ b, F' b → F b ∨ w.heap.size ≤ b
 but : ButF (fun b => b = pm ∨ F b) w wr
theorem LI.below {w wr w2 : World} {pa pm : Nat} {nn kk : Int} {F F' : Nat → Prop} {p : St × List Int} {vv : Value} (h : LI w wr pa pm nn kk F p vv F') (k : Below wr.heap.size wr w2) : LI w w2 pa pm nn kk F p vv F' :=
 ⟨own_move h.row fun g e => k.block g (h.row.lt g e).2, h.apart, h.ag.below k, h.sub, ButF.trans h.but (butF_below k) fun _ _ h => h⟩
theorem LI.asked {w w2 w3 : World} {pa pm : Nat} {nn kk : Int} {F F' F3 : Nat → Prop} {p : St × List Int} {vv : Value} {s' : St} (h : LI w w2 pa pm nn kk F p vv F') (hG3 : AG w3 pa pm nn kk s' F3) (hF3 : ∀ b, F3 b → F' b ∨ w2.heap.size ≤ b) (hB3 : ButF (fun b => b = pm ∨ F' b) w2 w3) (hpm : pm < w.heap.size) : LI w w3 pa pm nn kk F (s', p.2) vv F3 := by
 have hs := h.but.size
 refine ⟨own_move h.row fun g e => ?_, fun g e hf => ?_, hG3, fun b hb => ?_, ButF.trans h.but hB3 fun b hb hf => ?_⟩
 ·have hl := h.row.lt g e
  refine hB3.block g hl.2 fun hf => ?_
  rcases hf with rfl | hf
  ·omega
  ·exact h.apart g e hf
 ·have hl := h.row.lt g e
  rcases hF3 g hf with h1 | h1
  ·exact h.apart g e h1
  ·omega
 ·rcases hF3 b hb with h1 | h1
  ·exact h.sub b h1
  ·exact .inr (by omega)
 ·rcases hf with h1 | h1
  ·exact .inl h1
  ·rcases h.sub b h1 with h2 | h2
   ·exact .inr h2
   ·omega
theorem LI.append {w w3 w4 : World} {pa pm : Nat} {nn kk : Int} {F F3 : Nat → Prop} {s' : St} {ids : List Int} {vv v' : Value} {x : Int} (h : LI w w3 pa pm nn kk F (s', ids) vv F3) (hown : w4.ownsRow w.heap.size 3 1 v' (ids.length + 1) (ids.map (Value.int .i64) ++ [.int .i64 x])) (hgrow : (w3.alloc (.cells #[.int .i64 x] 3)).grownBy w4 vv.ownBlock) (hat : v'.ownBlock = vv.ownBlock ∨ v'.ownBlock = some (w3.alloc (.cells #[.int .i64 x] 3)).heap.size) (hpm : pm < w.heap.size) : LI w w4 pa pm nn kk F (s', ids ++ [x]) v' F3 := by
 have ka := below_alloc w3 (.cells #[.int .i64 x] 3)
 have hs := h.but.size
 have hsz : (w3.alloc (.cells #[.int .i64 x] 3)).heap.size = w3.heap.size + 1 := by simp
 have hblk : ∀ b, b < w3.heap.size → some b ≠ vv.ownBlock → w4.heap[b]? = w3.heap[b]? := fun b hb hn => (hgrow.block b (by omega) hn).trans (ka.block b hb)
 refine ⟨by simpa using hown, fun g e hf => ?_, h.ag.move (by have := hgrow.size; omega) fun b hb => ?_, h.sub, ButF.trans h.but (G := fun b => vv.ownBlock = some b) ⟨hgrow.os.trans ka.os, hgrow.tape.trans ka.tape, hgrow.output.trans ka.output, by have := hgrow.size; omega, fun i hi hn => hblk i hi fun e => hn e.symm⟩ fun b hb hf => ?_⟩
 ·rcases hat with h1 | h1
  ·exact h.apart g (h1.symm.trans e) hf
  ·rw [h1] at e
   injection e with e
   have := h.ag.fl g hf
   omega
 ·rcases hb with hb | rfl
  ·exact hblk b (h.ag.fl b hb) fun e => h.apart b e.symm hb
  ·exact hblk b (by omega) fun e => by have := (h.row.lt b e.symm).1; omega
 ·have := (h.row.lt b hf).1
  omega
theorem LI.bt {w wr : World} {pa pm : Nat} {nn kk : Int} {F F' : Nat → Prop} {p : St × List Int} {a : Option Addr} {n c : Nat} (h : LI w wr pa pm nn kk F p (.slice a n c) F') (hx : ∀ x ∈ p.2, I64 x) : BT w wr (.returned (.slice a n c)) pa pm nn kk F p := by
 obtain ⟨a1, c1, e1, hI, hn⟩ := row_il h.row hx
 cases e1
 refine ⟨a, c, F', rfl, hI, fun b off e h0 => ⟨hn b off e h0, ?_⟩, h.ag, h.sub, h.but⟩
 subst e
 exact h.apart _ rfl
theorem head_get {l : List Int} (h : 0 < l.length) : l[0] = l.headD 0 := by
 cases l with
 | nil => simp at h
 | cons a t => rfl
theorem M9.move {w w' : World} {b o : Nat} {kd xk : Int} {sd : Bool} {ad : Option Addr} {ld cd : Nat} {ap : Option Addr} {np cp : Nat} {sk : Bool} {ak : Option Addr} {lk ck : Nat} {v : Int} {ka : Option Addr} {kn kc : Nat} (h : M9 w b o kd xk sd ad ld cd ap np cp sk ak lk ck v ka kn kc) (hb : w'.heap[b]? = w.heap[b]?) : M9 w' b o kd xk sd ad ld cd ap np cp sk ak lk ck v ka kn kc := by
 have hc : ∀ i, w'.cell? ⟨b, i, none⟩ = w.cell? ⟨b, i, none⟩ := fun i => World.cell?_of_block (a := ⟨b, i, none⟩) hb
 exact ⟨(hc _).trans h.c0, (hc _).trans h.c1, (hc _).trans h.c2, (hc _).trans h.c3, (hc _).trans h.c4, (hc _).trans h.c5, (hc _).trans h.c6, (hc _).trans h.c7, (hc _).trans h.c8⟩
theorem m9_S {w : World} {b o b2 o2 : Nat} {x : Value} {kd xk : Int} {sd : Bool} {ad : Option Addr} {ld cd : Nat} {ap : Option Addr} {np cp : Nat} {sk : Bool} {ak : Option Addr} {lk ck : Nat} {v : Int} {ka : Option Addr} {kn kc : Nat} (h : M9 w b o kd xk sd ad ld cd ap np cp sk ak lk ck v ka kn kc) (h2 : w.cell? ⟨b2, o2, none⟩ = some x) : w.cell? ⟨b, o, none⟩ = some (.int .i64 kd) ∧ w.cell? ⟨b, o + 1, none⟩ = some (.int .i64 xk) ∧ w.cell? ⟨b, o + 2, none⟩ = some (.bool sd) ∧ w.cell? ⟨b, o + 3, none⟩ = some (.slice ad ld cd) ∧ w.cell? ⟨b, o + 4, none⟩ = some (.slice ap np cp) ∧ w.cell? ⟨b, o + 5, none⟩ = some (.bool sk) ∧ w.cell? ⟨b, o + 6, none⟩ = some (.slice ak lk ck) ∧ w.cell? ⟨b, o + 7, none⟩ = some (.int .i64 v) ∧ w.cell? ⟨b, o + 8, none⟩ = some (.slice ka kn kc) ∧ w.cell? ⟨b2, o2, none⟩ = some x := ⟨h.c0, h.c1, h.c2, h.c3, h.c4, h.c5, h.c6, h.c7, h.c8, h2⟩
theorem own_two (w : World) (x y : Int) : (w.alloc (.cells #[.int .i64 x, .int .i64 y] 3)).ownsRow w.heap.size 3 1 (.slice (some ⟨w.heap.size, 0, none⟩) 2 2) 2 (([x, y] : List Int).map (Value.int .i64)) :=
 ⟨rfl, .inr ⟨w.heap.size, 2, #[.int .i64 x, .int .i64 y], rfl, Nat.le_refl _, heap_alloc_new w _, Nat.le_refl _, by unfold maxLen; decide, rfl, rfl⟩⟩

set_option maxRecDepth 100000 in
set_option maxHeartbeats 6400000 in
theorem built_n {w0 w : World} {pa pm : Nat} {nn kk : Int} {s : St} {F : Nat → Prop} {ad : Option Addr} {n c : Nat} {R : List Mk} {B : Nat}
  (hG : AG w pa pm nn kk s F) (hF : ∀ b, F b → w0.heap.size ≤ b) (hpm : w0.heap.size ≤ pm) (h2 : 2 ≤ s.L.length) (hR : ML w0 ad n R B) (hn : n ≤ 1048576) (hB : B ≤ 1048576) (k0 : Below w0.heap.size w0 w) (htab : Tab w0) :
  Calls Tryz.prog 9 #[.pointer (some ⟨pa, 0, none⟩), .slice ad n c] w fun e w' => BT w w' e pa pm nn kk F (runW nn kk (s, [0, 1]) (R.take 40)) := by
 have hms := hG.mb.lt
 have hin : In s [0, 1] := ⟨by simp, fun x hx => by simp at hx; omega⟩
 go_enter Tryz.func9, Tryz.ntmps9
 go_wp2_with fail
 obtain ⟨i0, hi, hz0, hz1, hz2⟩ := info_parts infoI
 have hrl := hR.1
 have b0 := below_alloc w (.cells #[.int .i64 0, .int .i64 1] 3)
 have hst : Hid (LI w (w.alloc (.cells #[.int .i64 0, .int .i64 1] 3)) pa pm nn kk F (s, [0, 1]) (.slice (some ⟨w.heap.size, 0, none⟩) 2 2) F) := hide ⟨own_two w 0 1, fun g e hg => by cases e; exact absurd (hG.fl _ hg) (Nat.lt_irrefl _), hG.below b0, fun b hb => .inl hb, butF_below b0⟩
 clear hG
 generalize w.alloc (.cells #[.int .i64 0, .int .i64 1] 3) = wb at *
 clear b0
 go_loopw [5, 6] (fun vv i wr => ∃ (t : Nat) (F' : Nat → Prop), t ≤ n ∧ t ≤ 40 ∧ i = .int .i64 t ∧ Hid (LI w wr pa pm nn kk F (runW nn kk (s, [0, 1]) (R.take t)) vv F')) (fun _ i _ => 40 - (intOf i).toNat)
 case atStart => exact ⟨0, F, Nat.zero_le _, Nat.zero_le _, rfl, hst⟩
 case round =>
  obtain ⟨t, F', ht, ht4, rfl, hli⟩ := hrel
  have hinp := run_in (nn := nn) (kk := kk) (R.take t) hin
  have hlen := run_len nn kk (R.take t) (s, [0, 1])
  rw [List.length_take] at hlen
  have hlen2 : (runW nn kk (s, [0, 1]) (R.take t)).2.length ≤ 42 := by simp at hlen; omega
  clear hlen
  have hLl : ((runW nn kk (s, [0, 1]) (R.take t)).1.L.length : Int) ≤ 2002 := by have h1 := hli.out.ag.ln; have h3 := hli.out.ag.cn; have h4 := hli.out.ag.n2; omega
  have hx64 : ∀ x ∈ (runW nn kk (s, [0, 1]) (R.take t)).2, I64 x := fun x hx => by have := hinp.2 x hx; unfold I64; omega
  obtain ⟨a5, c5, rfl⟩ := own_slice hli.out.row
  by_cases htn : t < n ∧ t < 40
  ·have kw : Hid (Below w0.heap.size w0 wr) := hide (k0.trans (hli.out.but.below (fun b hb => hb.elim (fun e => by omega) (hF b)) k0.size))
   have hbRw : ∀ b off, ad = some ⟨b, off, none⟩ → b < w0.heap.size := fun b off e => by
    rcases hR.2 with h | ⟨b1, o1, rfl, h1, _⟩
    ·omega
    ·cases e; exact h1
   rcases (hR.below kw.out).2 with h | ⟨bR, oR, rfl, hbR, hMA⟩
   ·omega
   replace hbRw := hbRw bR oR rfl
   obtain ⟨sd, ad1, ld, cd, ap, np, cp, sk, ak, lk, ck, ka, kn, kc, hm9, hzd, hld, hPr, hnp, hzk, hlk, hks, hkn, hik, hiv⟩ := hMA t (by omega)
   clear hMA
   have hsn : Hid (runW nn kk (s, [0, 1]) (R.take (t + 1)) = stepW nn kk (runW nn kk (s, [0, 1]) (R.take t)) R[t]) := hide (by rw [List.take_succ_eq_append_getElem (by omega), run_snoc])
   generalize R[t] = m at *
   generalize runW nn kk (s, [0, 1]) (R.take t) = p at *
   obtain ⟨st, ids⟩ := p
   dsimp only at hinp hlen2 hLl hx64
   have hflr := hli.out.ag.fl
   have hsubr : ∀ b, F' b → w0.heap.size ≤ b := fun b hb => (hli.out.sub b hb).elim (hF b) fun h => Nat.le_trans k0.size h
   have hpr : pm < wr.heap.size := hli.out.ag.mb.lt
   obtain ⟨a9, c9, e9, hIL, hNew⟩ := row_il (l := ids) hli.out.row hx64
   cases e9
   have htw := hide (htab.below kw.out)
   have hof := hide (of_n (ad := ad1) (kd := m.kind) (xk := m.xk) (sd := sd) (ld := ld) (cd := cd) (ap := ap) (np := np) (cp := cp) (sk := sk) (ak := ak) (lk := lk) (ck := ck) (v := m.v) (kc := kc) (ic := c5) hks (by omega) hIL hinp.1 (show ids.length ≤ 1000 by omega))
   unfold mkv at hof
   have v0 := hm9.c0
   have v1 := hm9.c1
   have v2 := hm9.c2
   have v3 := hm9.c3
   have v4 := hm9.c4
   have v5 := hm9.c5
   have v6 := hm9.c6
   have v7 := hm9.c7
   have v8 := hm9.c8
   clear hIL hNew
   replace hli := hide hli.out
   dsimp only
   go_wp2_with fail
   refine hof.out.mono ?_
   clear v0 v1 v2 v3 v4 v5 v6 v7 v8 hof
   rintro e w1 ⟨aO, cO, rfl, hIO, hnO, k1⟩
   have hm91 := hm9.below k1
   replace hzd := hzd.below k1
   replace hPr := hPr.below k1
   replace hzk := hzk.below k1
   have hli1 := hide (hli.out.below k1)
   have htw1 := hide (htw.out.below k1)
   clear hli htw hm9 k1 hks
   have hwh := hide (what_n (w := w1) (ad := ad1) (xk := m.xk) (sd := sd) (ld := ld) (cd := cd) (ap := ap) (np := np) (cp := cp) (sk := sk) (ak := ak) (lk := lk) (ck := ck) (v := m.v) (ka := ka) (kn := kn) (kc := kc) hik)
   unfold mkv at hwh
   have v0 := hm91.c0
   have v1 := hm91.c1
   have v2 := hm91.c2
   have v3 := hm91.c3
   have v4 := hm91.c4
   have v5 := hm91.c5
   have v6 := hm91.c6
   have v7 := hm91.c7
   have v8 := hm91.c8
   go_wp2_with fail
   refine hwh.out.mono ?_
   clear v0 v1 v2 v3 v4 v5 v6 v7 v8 hwh
   rintro e w2 ⟨rfl, k2⟩
   have hm92 := hm91.below k2
   replace hzd := hzd.below k2
   replace hPr := hPr.below k2
   replace hzk := hzk.below k2
   replace hIO := hIO.below k2
   have hli2 := hide (hli1.out.below k2)
   have htw2 := hide (htw1.out.below k2)
   clear hli1 htw1 hm91 k2
   have hofi : ∀ x ∈ ofI m.kids ids, 0 ≤ x ∧ x < (st.L.length : Int) := fun x hx => hinp.2 x (ofI_mem hinp.1 hx)
   have hofl := ofI_len (ks := m.kids) (ids := ids)
   have v0 := hm92.c0
   have v1 := hm92.c1
   have v2 := hm92.c2
   have v3 := hm92.c3
   have v4 := hm92.c4
   have v5 := hm92.c5
   have v6 := hm92.c6
   have v7 := hm92.c7
   have v8 := hm92.c8
   rcases whatI_cases m.kind with hw | hw | hw | hw | hw
   ·rw [hw]
    have hask : Hid (wants nn kk st ids m = asked nn kk st (atomA m.xk m.xd m.xp m.xt)) := hide (by unfold wants ask; rw [if_pos hw])
    go_wp2_with fail
    refine (atom_ao hli2.out.ag hzd hld hPr hzk hlk hnp hB htw2.out).mono ?_
    clear v0 v1 v2 v3 v4 v5 v6 v7 v8
    rintro e w3 ⟨x3, e3, rfl, hno, hyes, F3, hG3, hF3, hB3⟩
    rw [← hask.out] at hno hyes hG3
    have hli3 := hide (hli2.out.asked hG3 hF3 hB3 hms)
    clear hG3 hF3 hB3 hli2 hask hzd hPr hzk hIO htw2 hm92
    cases ho : (wants nn kk st ids m).2 with
    | none =>
     have he3 : (e3 == 0) = false := by simpa using hno ho
     have hst3 : Hid (LI w w3 pa pm nn kk F (runW nn kk (s, [0, 1]) (R.take (t + 1))) (.slice a5 ids.length c5) F3) := hide (by rw [hsn.out]; unfold stepW; rw [ho]; simpa using hli3.out)
     clear hli3 hno hyes ho
     go_wp2
     exact ⟨⟨t + 1, F3, by omega, by omega, by go_num, hst3⟩, by simp [intOf]; omega⟩
    | some i =>
     obtain ⟨rfl, rfl⟩ := hyes i ho
     have hbase := hide (show w.heap.size ≤ w3.heap.size from hli3.out.but.size)
     clear hno hyes
     go_wp2_with (at_builtin; refine wpList_append_own_at _ rfl _ _ 26 rfl w.heap.size 3 i0 _ 1 8 Tryz.underlying26 hi hz0 hz1 hz2 rfl (by decide) _ _ _ rfl (hli3.out.row.alloc _) ⟨w3.heap.size, 0, none⟩ 1 1 [.int .i64 x3] rfl rfl (by simpa using cell_one_new w3 (.int .i64 x3) 3) (by simp [Value.oneCell']) (by unfold maxLen; dsimp only; omega) (by dsimp only; omega) (by have := hbase.out; simp; omega) ?_; intro v' w4 hown' hgrow hnil hat')
     have hst3 : Hid (LI w w4 pa pm nn kk F (runW nn kk (s, [0, 1]) (R.take (t + 1))) v' F3) := hide (by rw [hsn.out]; unfold stepW; rw [ho]; exact hli3.out.append hown' hgrow hat' hms)
     exact ⟨⟨t + 1, F3, by omega, by omega, by go_num, hst3⟩, by simp [intOf]; omega⟩
   ·rw [hw]
    have hask : Hid (wants nn kk st ids m = asked nn kk st (joinA 5 (ofI m.kids ids))) := hide (by unfold wants ask; rw [if_neg (by omega), if_pos hw])
    go_wp2_with fail
    refine (join_ao (.inl rfl) hli2.out.ag hIO (by omega) hofi htw2.out).mono ?_
    clear v0 v1 v2 v3 v4 v5 v6 v7 v8
    rintro e w3 ⟨x3, e3, rfl, hno, hyes, F3, hG3, hF3, hB3⟩
    rw [← hask.out] at hno hyes hG3
    have hli3 := hide (hli2.out.asked hG3 hF3 hB3 hms)
    clear hG3 hF3 hB3 hli2 hask hzd hPr hzk hIO htw2 hm92
    cases ho : (wants nn kk st ids m).2 with
    | none =>
     have he3 : (e3 == 0) = false := by simpa using hno ho
     have hst3 : Hid (LI w w3 pa pm nn kk F (runW nn kk (s, [0, 1]) (R.take (t + 1))) (.slice a5 ids.length c5) F3) := hide (by rw [hsn.out]; unfold stepW; rw [ho]; simpa using hli3.out)
     clear hli3 hno hyes ho
     go_wp2
     exact ⟨⟨t + 1, F3, by omega, by omega, by go_num, hst3⟩, by simp [intOf]; omega⟩
    | some i =>
     obtain ⟨rfl, rfl⟩ := hyes i ho
     have hbase := hide (show w.heap.size ≤ w3.heap.size from hli3.out.but.size)
     clear hno hyes
     go_wp2_with (at_builtin; refine wpList_append_own_at _ rfl _ _ 26 rfl w.heap.size 3 i0 _ 1 8 Tryz.underlying26 hi hz0 hz1 hz2 rfl (by decide) _ _ _ rfl (hli3.out.row.alloc _) ⟨w3.heap.size, 0, none⟩ 1 1 [.int .i64 x3] rfl rfl (by simpa using cell_one_new w3 (.int .i64 x3) 3) (by simp [Value.oneCell']) (by unfold maxLen; dsimp only; omega) (by dsimp only; omega) (by have := hbase.out; simp; omega) ?_; intro v' w4 hown' hgrow hnil hat')
     have hst3 : Hid (LI w w4 pa pm nn kk F (runW nn kk (s, [0, 1]) (R.take (t + 1))) v' F3) := hide (by rw [hsn.out]; unfold stepW; rw [ho]; exact hli3.out.append hown' hgrow hat' hms)
     exact ⟨⟨t + 1, F3, by omega, by omega, by go_num, hst3⟩, by simp [intOf]; omega⟩
   ·rw [hw]
    have hask : Hid (wants nn kk st ids m = asked nn kk st (joinA 6 (ofI m.kids ids))) := hide (by unfold wants ask; rw [if_neg (by omega), if_neg (by omega), if_pos hw])
    go_wp2_with fail
    refine (join_ao (.inr rfl) hli2.out.ag hIO (by omega) hofi htw2.out).mono ?_
    clear v0 v1 v2 v3 v4 v5 v6 v7 v8
    rintro e w3 ⟨x3, e3, rfl, hno, hyes, F3, hG3, hF3, hB3⟩
    rw [← hask.out] at hno hyes hG3
    have hli3 := hide (hli2.out.asked hG3 hF3 hB3 hms)
    clear hG3 hF3 hB3 hli2 hask hzd hPr hzk hIO htw2 hm92
    cases ho : (wants nn kk st ids m).2 with
    | none =>
     have he3 : (e3 == 0) = false := by simpa using hno ho
     have hst3 : Hid (LI w w3 pa pm nn kk F (runW nn kk (s, [0, 1]) (R.take (t + 1))) (.slice a5 ids.length c5) F3) := hide (by rw [hsn.out]; unfold stepW; rw [ho]; simpa using hli3.out)
     clear hli3 hno hyes ho
     go_wp2
     exact ⟨⟨t + 1, F3, by omega, by omega, by go_num, hst3⟩, by simp [intOf]; omega⟩
    | some i =>
     obtain ⟨rfl, rfl⟩ := hyes i ho
     have hbase := hide (show w.heap.size ≤ w3.heap.size from hli3.out.but.size)
     clear hno hyes
     go_wp2_with (at_builtin; refine wpList_append_own_at _ rfl _ _ 26 rfl w.heap.size 3 i0 _ 1 8 Tryz.underlying26 hi hz0 hz1 hz2 rfl (by decide) _ _ _ rfl (hli3.out.row.alloc _) ⟨w3.heap.size, 0, none⟩ 1 1 [.int .i64 x3] rfl rfl (by simpa using cell_one_new w3 (.int .i64 x3) 3) (by simp [Value.oneCell']) (by unfold maxLen; dsimp only; omega) (by dsimp only; omega) (by have := hbase.out; simp; omega) ?_; intro v' w4 hown' hgrow hnil hat')
     have hst3 : Hid (LI w w4 pa pm nn kk F (runW nn kk (s, [0, 1]) (R.take (t + 1))) v' F3) := hide (by rw [hsn.out]; unfold stepW; rw [ho]; exact hli3.out.append hown' hgrow hat' hms)
     exact ⟨⟨t + 1, F3, by omega, by omega, by go_num, hst3⟩, by simp [intOf]; omega⟩
   ·rw [hw]
    have hask : Hid (wants nn kk st ids m = asked nn kk st (.inr ⟨7, 0, [], 0, pick m.v 4, [(ofI m.kids ids).headD 0]⟩)) := hide (by unfold wants ask; rw [if_neg (by omega), if_neg (by omega), if_neg (by omega), if_pos hw])
    have hone := ofI_ne (ks := m.kids) (ids := ids)
    have hpos : 0 < (ofI m.kids ids).length := List.length_pos_iff.2 hone
    rcases hIO.2 with h | ⟨bO, oO, rfl, hbO, hcO⟩
    ·omega
    have hx0 : (ofI m.kids ids)[0] = (ofI m.kids ids).headD 0 := head_get hpos
    have cO := (hcO 0 hpos).1
    rw [hx0, Nat.add_zero] at cO
    have hx0i := hofi _ (List.getElem_mem hpos)
    rw [hx0] at hx0i
    have hbOn : wr.heap.size ≤ bO := hnO bO oO rfl hpos
    clear hcO hx0 hone
    generalize (ofI m.kids ids).headD 0 = x0 at *
    clear v0 v1 v2 v3 v4 v5 v6 v7 v8 hIO hofi
    generalize (ofI m.kids ids).length = lO at *
    have kD := grow_drew (Below.refl w2.heap.size w2)
    go_wp2_with fail
    refine wp_region_held_drew (S := (fun w' => w'.cell? ⟨bR, oR + t * 9, none⟩ = some (.int .i64 m.kind) ∧ w'.cell? ⟨bR, oR + t * 9 + 1, none⟩ = some (.int .i64 m.xk) ∧ w'.cell? ⟨bR, oR + t * 9 + 2, none⟩ = some (.bool sd) ∧ w'.cell? ⟨bR, oR + t * 9 + 3, none⟩ = some (.slice ad1 ld cd) ∧ w'.cell? ⟨bR, oR + t * 9 + 4, none⟩ = some (.slice ap np cp) ∧ w'.cell? ⟨bR, oR + t * 9 + 5, none⟩ = some (.bool sk) ∧ w'.cell? ⟨bR, oR + t * 9 + 6, none⟩ = some (.slice ak lk ck) ∧ w'.cell? ⟨bR, oR + t * 9 + 7, none⟩ = some (.int .i64 m.v) ∧ w'.cell? ⟨bR, oR + t * 9 + 8, none⟩ = some (.slice ka kn kc) ∧ w'.cell? ⟨bO, oO, none⟩ = some (.int .i64 x0))) (by kernel_rfl) (m9_S (hm92.below kD) ((kD.cell (p := ⟨bO, oO, none⟩) hbO).trans cO)) (fun hHeld => ?_)
    show wpAnyH _ _ _ _ _ 15 _ _ _
    refine wpAnyH_take (i := 0) (oi := ⟨some 63, _, _, _, _, _⟩) (v := ?_) rfl (by kernel_rfl) (by kernel_rfl) (by kernel_rfl) (fun _ _ _ h => h) (Or.inl ⟨by rfl, ?_⟩) (by assumption) ?_
    rotate_left
    ·intro wq hSw; (try dsimp only at hSw); go_simp; (try with_reducible rfl)
    (try simp only [Act.put, List.setIfInBounds_toArray, List.set_cons_zero, List.set_cons_succ])
    refine wpAnyH_take (i := 1) (oi := ⟨some 64, _, _, _, _, _⟩) (v := ?_) rfl (by kernel_rfl) (by kernel_rfl) (by kernel_rfl) (fun _ _ _ h => h) (Or.inl ⟨by rfl, ?_⟩) (by assumption) ?_
    rotate_left
    ·intro wq hSw; (try dsimp only at hSw); go_simp; (try with_reducible rfl)
    (try simp only [Act.put, List.setIfInBounds_toArray, List.set_cons_zero, List.set_cons_succ])
    refine wpAnyH_take (i := 2) (oi := ⟨some 65, _, _, _, _, _⟩) (v := ?_) rfl (by kernel_rfl) (by kernel_rfl) (by kernel_rfl) (fun _ _ _ h => h) (Or.inl ⟨by rfl, ?_⟩) (by assumption) ?_
    rotate_left
    ·intro wq hSw; (try dsimp only at hSw); go_simp; (try with_reducible rfl)
    (try simp only [Act.put, List.setIfInBounds_toArray, List.set_cons_zero, List.set_cons_succ])
    refine wpAnyH_take (i := 3) (oi := ⟨some 66, _, _, _, _, _⟩) (v := ?_) rfl (by kernel_rfl) (by kernel_rfl) (by kernel_rfl) (fun _ _ _ h => h) (Or.inl ⟨by rfl, ?_⟩) (by assumption) ?_
    rotate_left
    ·intro wq hSw; (try dsimp only at hSw); go_simp; (try with_reducible rfl)
    (try simp only [Act.put, List.setIfInBounds_toArray, List.set_cons_zero, List.set_cons_succ])
    refine wpAnyH_take (i := 4) (oi := ⟨some 67, _, _, _, _, _⟩) (v := ?_) rfl (by kernel_rfl) (by kernel_rfl) (by kernel_rfl) (fun _ _ _ h => h) (Or.inl ⟨by rfl, ?_⟩) (by assumption) ?_
    rotate_left
    ·intro wq hSw; (try dsimp only at hSw); go_simp; (try with_reducible rfl)
    (try simp only [Act.put, List.setIfInBounds_toArray, List.set_cons_zero, List.set_cons_succ])
    refine wpAnyH_take (i := 6) (oi := ⟨some 69, _, _, _, _, _⟩) (v := ?_) rfl (by kernel_rfl) (by kernel_rfl) (by kernel_rfl) (fun _ _ _ h => h) (Or.inl ⟨by rfl, ?_⟩) (by assumption) ?_
    rotate_left
    ·intro wq hSw; (try dsimp only at hSw); go_simp; (try with_reducible rfl)
    (try simp only [Act.put, List.setIfInBounds_toArray, List.set_cons_zero, List.set_cons_succ])
    refine wpAnyH_take (i := 7) (oi := ⟨some 70, _, _, _, _, _⟩) (v := ?_) rfl (by kernel_rfl) (by kernel_rfl) (by kernel_rfl) (fun _ _ _ h => h) (Or.inl ⟨by rfl, ?_⟩) (by assumption) ?_
    rotate_left
    ·intro wq hSw; (try dsimp only at hSw); go_simp; (try with_reducible rfl)
    (try simp only [Act.put, List.setIfInBounds_toArray, List.set_cons_zero, List.set_cons_succ])
    refine wpAnyH_take (i := 8) (oi := ⟨some 71, _, _, _, _, _⟩) (v := ?_) rfl (by kernel_rfl) (by kernel_rfl) (by kernel_rfl) (fun _ _ _ h => h) (Or.inl ⟨by rfl, ?_⟩) (by assumption) ?_
    rotate_left
    ·intro wq hSw; (try dsimp only at hSw); go_simp; (try with_reducible rfl)
    (try simp only [Act.put, List.setIfInBounds_toArray, List.set_cons_zero, List.set_cons_succ])
    refine wpAnyH_ready (rs := [5]) (by kernel_rfl) (by simp) ?_
    refine AllReadyH.cons (o := ⟨some 68, _, _, _, _, _⟩) rfl (fun K hK => ?_) AllReadyH.nil
    go_simp
    have hvar := var_n (w := w2.drew) (ad := ad1) (kd := m.kind) (xk := m.xk) (sd := sd) (ld := ld) (cd := cd) (ap := ap) (np := np) (cp := cp) (sk := sk) (ak := ak) (lk := lk) (ck := ck) (ka := ka) (kn := kn) (kc := kc) hiv
    unfold mkv at hvar
    refine Calls.mono hvar ?_
    clear hvar
    rintro e w2b ⟨rfl, k2b⟩
    replace k2b := grow_step k2b (grow_drew (Below.refl _ _))
    have hm92 := hm92.below k2b
    have cO := (k2b.cell (p := ⟨bO, oO, none⟩) hbO).trans cO
    have hli2 := hide (hli2.out.below k2b)
    have htw2 := hide (htw2.out.below k2b)
    have hbR2 : bR < w2b.heap.size := World.block_lt_of_cell? w2b _ hm92.c0
    have hbO2 : bO < w2b.heap.size := World.block_lt_of_cell? w2b _ cO
    (try go_wp2_with fail)
    refine hK.out _ _ ?_ ?_
    ·(try dsimp only); exact m9_S hm92 cO
    clear hK K hHeld; intro hHeld
    (try simp only [Act.put, List.setIfInBounds_toArray, List.set_cons_zero, List.set_cons_succ])
    refine wpAnyH_ready (rs := [9]) (by kernel_rfl) (by simp) ?_
    refine AllReadyH.cons (o := ⟨some 72, _, _, _, _, _⟩) rfl (fun K hK => ?_) AllReadyH.nil
    go_simp
    refine Calls.mono (bind_ao (kd := 7) (.inl rfl) hli2.out.ag (by have := pick_lt m.v (n := 4) (by decide); unfold I64; omega) hx0i htw2.out) ?_
    rintro e w3 ⟨x3, e3, rfl, hno, hyes, F3, hG3, hF3, hB3⟩
    have hm93 := hm92.move (w' := w3) (hB3.block bR hbR2 fun hf => by rcases hf with rfl | hf; omega; have := hsubr _ hf; omega)
    have cO3 := (World.cell?_of_block (a := ⟨bO, oO, none⟩) (hB3.block bO hbO2 fun hf => by rcases hf with rfl | hf; omega; have := hflr _ hf; omega)).trans cO
    (try go_wp2_with fail)
    refine hK.out _ _ ?_ ?_
    ·(try dsimp only); exact m9_S hm93 cO3
    clear hK K hHeld; intro hHeld
    (try simp only [Act.put, List.setIfInBounds_toArray, List.set_cons_zero, List.set_cons_succ])
    refine wpAnyH_ready (rs := [10]) (by kernel_rfl) (by simp) ?_
    refine AllReadyH.cons (o := ⟨some 62, _, _, _, _, _⟩) rfl (fun K hK => ?_) AllReadyH.nil
    go_simp
    refine hK.out _ _ ?_ ?_
    ·(try dsimp only); exact m9_S hm93 cO3
    clear hK K hHeld; intro hHeld
    (try simp only [Act.put, List.setIfInBounds_toArray, List.set_cons_zero, List.set_cons_succ])
    refine wpAnyH_take (i := 11) (oi := ⟨some 73, _, _, _, _, _⟩) (v := ?_) rfl (by kernel_rfl) (by kernel_rfl) (by kernel_rfl) (fun _ _ _ h => h) (Or.inl ⟨by rfl, ?_⟩) (by assumption) ?_
    rotate_left
    ·intro wq hSw; (try dsimp only at hSw); go_simp; (try with_reducible rfl)
    (try simp only [Act.put, List.setIfInBounds_toArray, List.set_cons_zero, List.set_cons_succ])
    refine wpAnyH_take (i := 12) (oi := ⟨some 74, _, _, _, _, _⟩) (v := ?_) rfl (by kernel_rfl) (by kernel_rfl) (by kernel_rfl) (fun _ _ _ h => h) (Or.inl ⟨by rfl, ?_⟩) (by assumption) ?_
    rotate_left
    ·intro wq hSw; (try dsimp only at hSw); go_simp; (try with_reducible rfl)
    (try simp only [Act.put, List.setIfInBounds_toArray, List.set_cons_zero, List.set_cons_succ])
    refine wpAnyH_ready (rs := [13]) (by kernel_rfl) (by simp) ?_
    refine AllReadyH.cons (o := ⟨some 8, _, _, _, _, _⟩) rfl (fun K hK => ?_) AllReadyH.nil
    go_simp
    refine hK.out _ _ ?_ ?_
    ·(try dsimp only); exact m9_S hm93 cO3
    clear hK K hHeld; intro hHeld
    (try simp only [Act.put, List.setIfInBounds_toArray, List.set_cons_zero, List.set_cons_succ])
    refine wpAnyH_ready (rs := [14]) (by kernel_rfl) (by simp) ?_
    refine AllReadyH.cons (o := ⟨some 9, _, _, _, _, _⟩) rfl (fun K hK => ?_) AllReadyH.nil
    go_simp
    refine hK.out _ _ ?_ ?_
    ·(try dsimp only); exact m9_S hm93 cO3
    clear hK K hHeld; intro hHeld
    (try simp only [Act.put, List.setIfInBounds_toArray, List.set_cons_zero, List.set_cons_succ])
    refine wpAnyH_done (by kernel_rfl) ?_ _
    rw [← hask.out] at hno hyes hG3
    have hli3 := hide (hli2.out.asked hG3 hF3 hB3 hms)
    clear hG3 hF3 hB3 hli2 hask hzd hPr hzk htw2 hm92 hm93 cO cO3 hHeld
    cases ho : (wants nn kk st ids m).2 with
    | none =>
     have he3 : (e3 == 0) = false := by simpa using hno ho
     have hst3 : Hid (LI w w3 pa pm nn kk F (runW nn kk (s, [0, 1]) (R.take (t + 1))) (.slice a5 ids.length c5) F3) := hide (by rw [hsn.out]; unfold stepW; rw [ho]; simpa using hli3.out)
     clear hli3 hno hyes ho
     go_wp2
     exact ⟨⟨t + 1, F3, by omega, by omega, by go_num, hst3⟩, by simp [intOf]; omega⟩
    | some i =>
     obtain ⟨rfl, rfl⟩ := hyes i ho
     have hbase := hide (show w.heap.size ≤ w3.heap.size from hli3.out.but.size)
     clear hno hyes
     go_wp2_with (at_builtin; refine wpList_append_own_at _ rfl _ _ 26 rfl w.heap.size 3 i0 _ 1 8 Tryz.underlying26 hi hz0 hz1 hz2 rfl (by decide) _ _ _ rfl (hli3.out.row.alloc _) ⟨w3.heap.size, 0, none⟩ 1 1 [.int .i64 x3] rfl rfl (by simpa using cell_one_new w3 (.int .i64 x3) 3) (by simp [Value.oneCell']) (by unfold maxLen; dsimp only; omega) (by dsimp only; omega) (by have := hbase.out; simp; omega) ?_; intro v' w4 hown' hgrow hnil hat')
     have hst3 : Hid (LI w w4 pa pm nn kk F (runW nn kk (s, [0, 1]) (R.take (t + 1))) v' F3) := hide (by rw [hsn.out]; unfold stepW; rw [ho]; exact hli3.out.append hown' hgrow hat' hms)
     exact ⟨⟨t + 1, F3, by omega, by omega, by go_num, hst3⟩, by simp [intOf]; omega⟩
   ·rw [hw]
    have hask : Hid (wants nn kk st ids m = asked nn kk st (.inr ⟨8, 0, [], 0, pick m.v 4, [(ofI m.kids ids).headD 0]⟩)) := hide (by unfold wants ask; rw [if_neg (by omega), if_neg (by omega), if_neg (by omega), if_neg (by omega)])
    have hone := ofI_ne (ks := m.kids) (ids := ids)
    have hpos : 0 < (ofI m.kids ids).length := List.length_pos_iff.2 hone
    rcases hIO.2 with h | ⟨bO, oO, rfl, hbO, hcO⟩
    ·omega
    have hx0 : (ofI m.kids ids)[0] = (ofI m.kids ids).headD 0 := head_get hpos
    have cO := (hcO 0 hpos).1
    rw [hx0, Nat.add_zero] at cO
    have hx0i := hofi _ (List.getElem_mem hpos)
    rw [hx0] at hx0i
    have hbOn : wr.heap.size ≤ bO := hnO bO oO rfl hpos
    clear hcO hx0 hone
    generalize (ofI m.kids ids).headD 0 = x0 at *
    clear v0 v1 v2 v3 v4 v5 v6 v7 v8 hIO hofi
    generalize (ofI m.kids ids).length = lO at *
    have kD := grow_drew (Below.refl w2.heap.size w2)
    go_wp2_with fail
    refine wp_region_held_drew (S := (fun w' => w'.cell? ⟨bR, oR + t * 9, none⟩ = some (.int .i64 m.kind) ∧ w'.cell? ⟨bR, oR + t * 9 + 1, none⟩ = some (.int .i64 m.xk) ∧ w'.cell? ⟨bR, oR + t * 9 + 2, none⟩ = some (.bool sd) ∧ w'.cell? ⟨bR, oR + t * 9 + 3, none⟩ = some (.slice ad1 ld cd) ∧ w'.cell? ⟨bR, oR + t * 9 + 4, none⟩ = some (.slice ap np cp) ∧ w'.cell? ⟨bR, oR + t * 9 + 5, none⟩ = some (.bool sk) ∧ w'.cell? ⟨bR, oR + t * 9 + 6, none⟩ = some (.slice ak lk ck) ∧ w'.cell? ⟨bR, oR + t * 9 + 7, none⟩ = some (.int .i64 m.v) ∧ w'.cell? ⟨bR, oR + t * 9 + 8, none⟩ = some (.slice ka kn kc) ∧ w'.cell? ⟨bO, oO, none⟩ = some (.int .i64 x0))) (by kernel_rfl) (m9_S (hm92.below kD) ((kD.cell (p := ⟨bO, oO, none⟩) hbO).trans cO)) (fun hHeld => ?_)
    show wpAnyH _ _ _ _ _ 15 _ _ _
    refine wpAnyH_take (i := 0) (oi := ⟨some 78, _, _, _, _, _⟩) (v := ?_) rfl (by kernel_rfl) (by kernel_rfl) (by kernel_rfl) (fun _ _ _ h => h) (Or.inl ⟨by rfl, ?_⟩) (by assumption) ?_
    rotate_left
    ·intro wq hSw; (try dsimp only at hSw); go_simp; (try with_reducible rfl)
    (try simp only [Act.put, List.setIfInBounds_toArray, List.set_cons_zero, List.set_cons_succ])
    refine wpAnyH_take (i := 1) (oi := ⟨some 79, _, _, _, _, _⟩) (v := ?_) rfl (by kernel_rfl) (by kernel_rfl) (by kernel_rfl) (fun _ _ _ h => h) (Or.inl ⟨by rfl, ?_⟩) (by assumption) ?_
    rotate_left
    ·intro wq hSw; (try dsimp only at hSw); go_simp; (try with_reducible rfl)
    (try simp only [Act.put, List.setIfInBounds_toArray, List.set_cons_zero, List.set_cons_succ])
    refine wpAnyH_take (i := 2) (oi := ⟨some 80, _, _, _, _, _⟩) (v := ?_) rfl (by kernel_rfl) (by kernel_rfl) (by kernel_rfl) (fun _ _ _ h => h) (Or.inl ⟨by rfl, ?_⟩) (by assumption) ?_
    rotate_left
    ·intro wq hSw; (try dsimp only at hSw); go_simp; (try with_reducible rfl)
    (try simp only [Act.put, List.setIfInBounds_toArray, List.set_cons_zero, List.set_cons_succ])
    refine wpAnyH_take (i := 3) (oi := ⟨some 81, _, _, _, _, _⟩) (v := ?_) rfl (by kernel_rfl) (by kernel_rfl) (by kernel_rfl) (fun _ _ _ h => h) (Or.inl ⟨by rfl, ?_⟩) (by assumption) ?_
    rotate_left
    ·intro wq hSw; (try dsimp only at hSw); go_simp; (try with_reducible rfl)
    (try simp only [Act.put, List.setIfInBounds_toArray, List.set_cons_zero, List.set_cons_succ])
    refine wpAnyH_take (i := 4) (oi := ⟨some 82, _, _, _, _, _⟩) (v := ?_) rfl (by kernel_rfl) (by kernel_rfl) (by kernel_rfl) (fun _ _ _ h => h) (Or.inl ⟨by rfl, ?_⟩) (by assumption) ?_
    rotate_left
    ·intro wq hSw; (try dsimp only at hSw); go_simp; (try with_reducible rfl)
    (try simp only [Act.put, List.setIfInBounds_toArray, List.set_cons_zero, List.set_cons_succ])
    refine wpAnyH_take (i := 6) (oi := ⟨some 84, _, _, _, _, _⟩) (v := ?_) rfl (by kernel_rfl) (by kernel_rfl) (by kernel_rfl) (fun _ _ _ h => h) (Or.inl ⟨by rfl, ?_⟩) (by assumption) ?_
    rotate_left
    ·intro wq hSw; (try dsimp only at hSw); go_simp; (try with_reducible rfl)
    (try simp only [Act.put, List.setIfInBounds_toArray, List.set_cons_zero, List.set_cons_succ])
    refine wpAnyH_take (i := 7) (oi := ⟨some 85, _, _, _, _, _⟩) (v := ?_) rfl (by kernel_rfl) (by kernel_rfl) (by kernel_rfl) (fun _ _ _ h => h) (Or.inl ⟨by rfl, ?_⟩) (by assumption) ?_
    rotate_left
    ·intro wq hSw; (try dsimp only at hSw); go_simp; (try with_reducible rfl)
    (try simp only [Act.put, List.setIfInBounds_toArray, List.set_cons_zero, List.set_cons_succ])
    refine wpAnyH_take (i := 8) (oi := ⟨some 86, _, _, _, _, _⟩) (v := ?_) rfl (by kernel_rfl) (by kernel_rfl) (by kernel_rfl) (fun _ _ _ h => h) (Or.inl ⟨by rfl, ?_⟩) (by assumption) ?_
    rotate_left
    ·intro wq hSw; (try dsimp only at hSw); go_simp; (try with_reducible rfl)
    (try simp only [Act.put, List.setIfInBounds_toArray, List.set_cons_zero, List.set_cons_succ])
    refine wpAnyH_ready (rs := [5]) (by kernel_rfl) (by simp) ?_
    refine AllReadyH.cons (o := ⟨some 83, _, _, _, _, _⟩) rfl (fun K hK => ?_) AllReadyH.nil
    go_simp
    have hvar := var_n (w := w2.drew) (ad := ad1) (kd := m.kind) (xk := m.xk) (sd := sd) (ld := ld) (cd := cd) (ap := ap) (np := np) (cp := cp) (sk := sk) (ak := ak) (lk := lk) (ck := ck) (ka := ka) (kn := kn) (kc := kc) hiv
    unfold mkv at hvar
    refine Calls.mono hvar ?_
    clear hvar
    rintro e w2b ⟨rfl, k2b⟩
    replace k2b := grow_step k2b (grow_drew (Below.refl _ _))
    have hm92 := hm92.below k2b
    have cO := (k2b.cell (p := ⟨bO, oO, none⟩) hbO).trans cO
    have hli2 := hide (hli2.out.below k2b)
    have htw2 := hide (htw2.out.below k2b)
    have hbR2 : bR < w2b.heap.size := World.block_lt_of_cell? w2b _ hm92.c0
    have hbO2 : bO < w2b.heap.size := World.block_lt_of_cell? w2b _ cO
    (try go_wp2_with fail)
    refine hK.out _ _ ?_ ?_
    ·(try dsimp only); exact m9_S hm92 cO
    clear hK K hHeld; intro hHeld
    (try simp only [Act.put, List.setIfInBounds_toArray, List.set_cons_zero, List.set_cons_succ])
    refine wpAnyH_ready (rs := [9]) (by kernel_rfl) (by simp) ?_
    refine AllReadyH.cons (o := ⟨some 87, _, _, _, _, _⟩) rfl (fun K hK => ?_) AllReadyH.nil
    go_simp
    refine Calls.mono (bind_ao (kd := 8) (.inr rfl) hli2.out.ag (by have := pick_lt m.v (n := 4) (by decide); unfold I64; omega) hx0i htw2.out) ?_
    rintro e w3 ⟨x3, e3, rfl, hno, hyes, F3, hG3, hF3, hB3⟩
    have hm93 := hm92.move (w' := w3) (hB3.block bR hbR2 fun hf => by rcases hf with rfl | hf; omega; have := hsubr _ hf; omega)
    have cO3 := (World.cell?_of_block (a := ⟨bO, oO, none⟩) (hB3.block bO hbO2 fun hf => by rcases hf with rfl | hf; omega; have := hflr _ hf; omega)).trans cO
    (try go_wp2_with fail)
    refine hK.out _ _ ?_ ?_
    ·(try dsimp only); exact m9_S hm93 cO3
    clear hK K hHeld; intro hHeld
    (try simp only [Act.put, List.setIfInBounds_toArray, List.set_cons_zero, List.set_cons_succ])
    refine wpAnyH_ready (rs := [10]) (by kernel_rfl) (by simp) ?_
    refine AllReadyH.cons (o := ⟨some 77, _, _, _, _, _⟩) rfl (fun K hK => ?_) AllReadyH.nil
    go_simp
    refine hK.out _ _ ?_ ?_
    ·(try dsimp only); exact m9_S hm93 cO3
    clear hK K hHeld; intro hHeld
    (try simp only [Act.put, List.setIfInBounds_toArray, List.set_cons_zero, List.set_cons_succ])
    refine wpAnyH_take (i := 11) (oi := ⟨some 88, _, _, _, _, _⟩) (v := ?_) rfl (by kernel_rfl) (by kernel_rfl) (by kernel_rfl) (fun _ _ _ h => h) (Or.inl ⟨by rfl, ?_⟩) (by assumption) ?_
    rotate_left
    ·intro wq hSw; (try dsimp only at hSw); go_simp; (try with_reducible rfl)
    (try simp only [Act.put, List.setIfInBounds_toArray, List.set_cons_zero, List.set_cons_succ])
    refine wpAnyH_take (i := 12) (oi := ⟨some 89, _, _, _, _, _⟩) (v := ?_) rfl (by kernel_rfl) (by kernel_rfl) (by kernel_rfl) (fun _ _ _ h => h) (Or.inl ⟨by rfl, ?_⟩) (by assumption) ?_
    rotate_left
    ·intro wq hSw; (try dsimp only at hSw); go_simp; (try with_reducible rfl)
    (try simp only [Act.put, List.setIfInBounds_toArray, List.set_cons_zero, List.set_cons_succ])
    refine wpAnyH_ready (rs := [13]) (by kernel_rfl) (by simp) ?_
    refine AllReadyH.cons (o := ⟨some 8, _, _, _, _, _⟩) rfl (fun K hK => ?_) AllReadyH.nil
    go_simp
    refine hK.out _ _ ?_ ?_
    ·(try dsimp only); exact m9_S hm93 cO3
    clear hK K hHeld; intro hHeld
    (try simp only [Act.put, List.setIfInBounds_toArray, List.set_cons_zero, List.set_cons_succ])
    refine wpAnyH_ready (rs := [14]) (by kernel_rfl) (by simp) ?_
    refine AllReadyH.cons (o := ⟨some 9, _, _, _, _, _⟩) rfl (fun K hK => ?_) AllReadyH.nil
    go_simp
    refine hK.out _ _ ?_ ?_
    ·(try dsimp only); exact m9_S hm93 cO3
    clear hK K hHeld; intro hHeld
    (try simp only [Act.put, List.setIfInBounds_toArray, List.set_cons_zero, List.set_cons_succ])
    refine wpAnyH_done (by kernel_rfl) ?_ _
    rw [← hask.out] at hno hyes hG3
    have hli3 := hide (hli2.out.asked hG3 hF3 hB3 hms)
    clear hG3 hF3 hB3 hli2 hask hzd hPr hzk htw2 hm92 hm93 cO cO3 hHeld
    cases ho : (wants nn kk st ids m).2 with
    | none =>
     have he3 : (e3 == 0) = false := by simpa using hno ho
     have hst3 : Hid (LI w w3 pa pm nn kk F (runW nn kk (s, [0, 1]) (R.take (t + 1))) (.slice a5 ids.length c5) F3) := hide (by rw [hsn.out]; unfold stepW; rw [ho]; simpa using hli3.out)
     clear hli3 hno hyes ho
     go_wp2
     exact ⟨⟨t + 1, F3, by omega, by omega, by go_num, hst3⟩, by simp [intOf]; omega⟩
    | some i =>
     obtain ⟨rfl, rfl⟩ := hyes i ho
     have hbase := hide (show w.heap.size ≤ w3.heap.size from hli3.out.but.size)
     clear hno hyes
     go_wp2_with (at_builtin; refine wpList_append_own_at _ rfl _ _ 26 rfl w.heap.size 3 i0 _ 1 8 Tryz.underlying26 hi hz0 hz1 hz2 rfl (by decide) _ _ _ rfl (hli3.out.row.alloc _) ⟨w3.heap.size, 0, none⟩ 1 1 [.int .i64 x3] rfl rfl (by simpa using cell_one_new w3 (.int .i64 x3) 3) (by simp [Value.oneCell']) (by unfold maxLen; dsimp only; omega) (by dsimp only; omega) (by have := hbase.out; simp; omega) ?_; intro v' w4 hown' hgrow hnil hat')
     have hst3 : Hid (LI w w4 pa pm nn kk F (runW nn kk (s, [0, 1]) (R.take (t + 1))) v' F3) := hide (by rw [hsn.out]; unfold stepW; rw [ho]; exact hli3.out.append hown' hgrow hat' hms)
     exact ⟨⟨t + 1, F3, by omega, by omega, by go_num, hst3⟩, by simp [intOf]; omega⟩
  ·have htk : R.take t = R.take 40 := by
    by_cases h5 : t = 40
    ·rw [h5]
    ·rw [List.take_of_length_le (by omega), List.take_of_length_le (by omega)]
   rw [htk] at hli hx64
   have hfin := hide (hli.out.bt hx64)
   clear hli hx64
   go_wp2
   all_goals
    go_ret
    exact hfin.out
end Nt
end Go.Proofs.YtjdghmkolkidpaaGreatDoor

namespace Go.Proofs.YtjdghmkolkidpaaGreatDoor
open Go.RowKit Go.Sort Go.Shelf
open Tm At
namespace Nt

/-- an arena, without its meter; all its blocks lie in F -/
structure AX (w : World) (pa pm : Nat) (L : List Nd) (F : Nat → Prop) : Prop where
 ar : ∃ C nv bm X D, AS w pa pm L C 2097152 nv bm X D ∧ ¬ FF pa bm nv C pm ∧ ∀ b, FF pa bm nv C b → F b
 fl : ∀ b, F b → b < w.heap.size
theorem AG.ax {w : World} {pa pm : Nat} {nn kk : Int} {s : St} {F : Nat → Prop} (h : AG w pa pm nn kk s F) : AX w pa pm s.L F := ⟨h.ar, h.fl⟩
theorem AX.move {w w' : World} {pa pm : Nat} {L : List Nd} {F : Nat → Prop} (h : AX w pa pm L F) (hs : w.heap.size ≤ w'.heap.size) (hm : ∀ b, F b → w'.heap[b]? = w.heap[b]?) : AX w' pa pm L F := by
 obtain ⟨⟨C, nv, bm, X, D, h1, h2, h3⟩, h11⟩ := h
 exact ⟨⟨C, nv, bm, X, D, h1.move hs fun b hb => hm b (h3 b hb), h2, h3⟩, fun b hb => Nat.lt_of_lt_of_le (h11 b hb) hs⟩
theorem AX.below {w w' : World} {pa pm : Nat} {L : List Nd} {F : Nat → Prop} (h : AX w pa pm L F) (k : Below w.heap.size w w') : AX w' pa pm L F := h.move k.size fun b hb => k.block b (h.fl b hb)
theorem AX.but {w w' : World} {pa pm : Nat} {L : List Nd} {F G : Nat → Prop} (h : AX w pa pm L F) (k : ButF G w w') (hG : ∀ b, F b → ¬ G b) : AX w' pa pm L F := h.move k.size fun b hb => k.block b (h.fl b hb) (hG b hb)
theorem AX.ag {w : World} {pa pm : Nat} {nn kk c er : Int} {L : List Nd} {F : Nat → Prop} (h : AX w pa pm L F) (hM : MB w pm nn kk c er) (h0 : 0 ≤ c) (h1 : c ≤ nn) (h2 : nn ≤ 2000) (h3 : 0 ≤ er) (h4 : er < 256) (h5 : (L.length : Int) ≤ c + 2) : AG w pa pm nn kk ⟨L, c, er⟩ F := ⟨h.ar, hM, h0, h1, h2, h3, h4, h5, h.fl⟩
theorem AX.len {w : World} {pa pm : Nat} {L : List Nd} {F : Nat → Prop} (h : AX w pa pm L F) : Calls Tryz.prog 10 #[.pointer (some ⟨pa, 0, none⟩)] w fun e w' => e = .returned (.int .i64 (L.length : Int)) ∧ w' = w := by
 obtain ⟨C, nv, bm, X, D, hA, hpm, hF⟩ := h.ar
 exact len8_n hA
theorem newM_ax {w : World} {pm : Nat} {nn kk c er : Int} (hM : MB w pm nn kk c er) (htab : Tab w) :
  Calls Tryz.prog 8 #[.pointer (some ⟨pm, 0, none⟩)] w fun e w' => ∃ pa F, e = .returned (.pointer (some ⟨pa, 0, none⟩)) ∧ AX w' pa pm [cst 0, cst 1] F ∧ (∀ b, F b → w.heap.size ≤ b) ∧ Below w.heap.size w w' := by
 refine (newM_n hM htab).mono ?_
 rintro e w' ⟨pa, C, nv, bm, X, D, rfl, hA, hF, k⟩
 have hl := hM.lt
 exact ⟨pa, FF pa bm nv C, rfl, ⟨⟨C, nv, bm, X, D, hA, fun hf => by have := hF pm hf; omega, fun _ hb => hb⟩, fun b hb => hA.fl hb⟩, hF, k⟩
theorem IL.but {w w' : World} {a : Option Addr} {n : Nat} {l : List Int} {G H : Nat → Prop} (h : IL w a n l) (hF : InF H a n) (k : ButF G w w') (hG : ∀ b, H b → b < w.heap.size → ¬ G b) : IL w' a n l :=
 il_move h k.size fun b off e h0 => k.block b (il_lt h e h0) (hG b (hF b off e h0) (il_lt h e h0))
end Nt
end Go.Proofs.YtjdghmkolkidpaaGreatDoor

namespace Go.Proofs.YtjdghmkolkidpaaGreatDoor
open Go.RowKit Go.Sort Go.Shelf
open Tm At
open Nt

set_option maxRecDepth 100000 in
set_option maxHeartbeats 6400000 in
theorem arenaApart_walk {w0 : World} {ad1 : Option Addr} {n1 c1 : Nat} {R1 : List Mk} {ad2 : Option Addr} {n2 c2 : Nat} {R2 : List Mk} {B : Nat} (h1 : ML w0 ad1 n1 R1 B) (h2 : ML w0 ad2 n2 R2 B) (hn1 : n1 ≤ 1048576) (hn2 : n2 ≤ 1048576) (hB : B ≤ 1048576) (htab : Tab w0) :
  Calls Tryz.prog 5 #[.slice ad1 n1 c1, .slice ad2 n2 c2] w0 fun e w' => e = .returned (.bool true) ∧ Below w0.heap.size w0 w' := by
 go_enter Tryz.func5, Tryz.ntmps5
 go_wp2_with fail
 refine (awake8_n htab).mono ?_
 rintro e v1 ⟨rfl, k1⟩
 go_wp2_with fail
 refine (new_n (by decide) (by decide) (by decide) (by decide)).mono ?_
 rintro e v2 ⟨rfl, hM2, k2⟩
 generalize hpe : v1.heap.size = pm at *
 have hpm : w0.heap.size ≤ pm := by have := k1.size; omega
 have k12 : Hid (Below w0.heap.size w0 v2) := hide (grow_step (hpe ▸ k2) k1)
 have ht2 := hide (htab.below k12.out)
 replace hM2 := hide hM2
 clear k1 k2 hpe
 go_wp2_with fail
 refine (newM_ax hM2.out ht2.out).mono ?_
 rintro e v3 ⟨pa, Fa, rfl, hXa, hFa, k3⟩
 have hpm2 := hM2.out.lt
 have hM3 := hide (hM2.out.below k3)
 have k13 := hide (grow_step k3 k12.out)
 have s3 := k3.size
 replace hXa := hide hXa
 replace hFa := hide hFa
 have ht3 := hide (ht2.out.below k3)
 clear k3 hM2 ht2 k12
 go_wp2_with fail
 refine (newM_ax hM3.out ht3.out).mono ?_
 rintro e v4 ⟨pb, Fb, rfl, hXb, hFb, k4⟩
 have hM4 := hide (hM3.out.below k4)
 have k14 := hide (grow_step k4 k13.out)
 have s4 := k4.size
 have hfa3 := hide hXa.out.fl
 replace hXa := hide (hXa.out.below k4)
 replace hXb := hide hXb
 replace hFb := hide hFb
 have ht4 := hide (ht3.out.below k4)
 clear k4 hM3 ht3 k13
 go_wp2_with fail
 refine (new_ag ht4.out).mono ?_
 rintro e v5 ⟨pc, pc1, Fc, rfl, hGc, hFc, hpc, k5⟩
 have hM5 := hide (hM4.out.below k5)
 have k15 := hide (grow_step k5 k14.out)
 have s5 := k5.size
 have hfb4 := hide hXb.out.fl
 replace hXa := hide (hXa.out.below k5)
 replace hXb := hide (hXb.out.below k5)
 replace hGc := hide hGc
 replace hFc := hide hFc
 have hpc5 := hGc.out.mb.lt
 have ht5 := hide (ht4.out.below k5)
 clear k5 hM4 ht4 k14
 go_wp2_with fail
 refine (new_ag ht5.out).mono ?_
 rintro e v6 ⟨pd, pd1, Fd, rfl, hGd, hFd, hpd, k6⟩
 have hM6 := hide (hM5.out.below k6)
 have k16 := hide (grow_step k6 k15.out)
 have s6 := k6.size
 have hfc5 := hide hGc.out.fl
 replace hXa := hide (hXa.out.below k6)
 replace hXb := hide (hXb.out.below k6)
 replace hGc := hide (hGc.out.below k6)
 replace hGd := hide hGd
 replace hFd := hide hFd
 have hpd6 := hGd.out.mb.lt
 clear k6 hM5 ht5 k15
 have s16 := k16.out.size
 have iA : ∀ b, Fa b → v2.heap.size ≤ b ∧ b < v3.heap.size := fun b hb => ⟨hFa.out b hb, hfa3.out b hb⟩
 have iB : ∀ b, Fb b → v3.heap.size ≤ b ∧ b < v4.heap.size := fun b hb => ⟨hFb.out b hb, hfb4.out b hb⟩
 have iC : ∀ b, Fc b → v4.heap.size ≤ b ∧ b < v5.heap.size := fun b hb => ⟨hFc.out b hb, hfc5.out b hb⟩
 have iD : ∀ b, Fd b → v5.heap.size ≤ b ∧ b < v6.heap.size := fun b hb => ⟨hFd.out b hb, hGd.out.fl b hb⟩
 clear hFa hfa3 hFb hfb4 hFc hfc5 hFd
 replace iA := hide iA
 replace iB := hide iB
 replace iC := hide iC
 replace iD := hide iD
 go_wp2_with fail
 refine (built_n (nn := 2000) (kk := 8) (s := st0) (hXa.out.ag hM6.out (by decide) (by decide) (by decide) (by decide) (by decide) (by decide)) (fun b hb => by have := iA.out b hb; omega) hpm (by decide) h1 hn1 hB k16.out htab).mono ?_
 rintro e v7 ⟨ax, cx, Fa7, rfl, hIx, hfx, hGa, hFa7, hB7⟩
 generalize hra : runW 2000 8 (st0, [0, 1]) (R1.take 40) = ra at *
 have k17 := hide (k16.out.trans (hB7.below (fun b hb => by rcases hb with rfl | hb; omega; have := iA.out b hb; omega) k16.out.size))
 have iA7 : ∀ b, Fa7 b → (v2.heap.size ≤ b ∧ b < v3.heap.size) ∨ v6.heap.size ≤ b := fun b hb => (hFa7 b hb).imp (iA.out b) id
 have hXb7 := hide (hXb.out.but hB7 fun b hb hf => by have h9 := iB.out b hb; rcases hf with rfl | hf; omega; have h8 := iA.out b hf; omega)
 have hGc7 := hide (hGc.out.move hB7.size fun b hb => hB7.block b (hb.elim (hGc.out.fl b) fun e => e ▸ hGc.out.mb.lt) fun hf => by have h9 : v4.heap.size ≤ b := hb.elim (fun h => (iC.out b h).1) (fun e => by omega); rcases hf with rfl | hf; omega; have h8 := iA.out b hf; omega)
 have hGd7 := hide (hGd.out.move hB7.size fun b hb => hB7.block b (hb.elim (hGd.out.fl b) fun e => e ▸ hGd.out.mb.lt) fun hf => by have h9 : v5.heap.size ≤ b := hb.elim (fun h => (iD.out b h).1) (fun e => by omega); rcases hf with rfl | hf; omega; have h8 := iA.out b hf; omega)
 have hM7 := hide hGa.mb
 have hXa7 := hide hGa.ax
 have s7 := hB7.size
 have l7 : (ra.1.L.length : Int) ≤ 2002 := by have h9 := hGa.ln; have h8 := hGa.cn; omega
 have c7 : 0 ≤ ra.1.c ∧ ra.1.c ≤ 2000 ∧ 0 ≤ ra.1.er ∧ ra.1.er < 256 := ⟨hGa.c0, hGa.cn, hGa.e0, hGa.e2⟩
 replace hIx := hide hIx
 replace hfx := hide hfx
 replace iA7 := hide iA7
 clear hGa hFa7 hB7 hXa hXb hGc hGd hM6 k16
 go_wp2_with fail
 refine (built_n (nn := 2000) (kk := 8) (s := ⟨[cst 0, cst 1], ra.1.c, ra.1.er⟩) (hXb7.out.ag hM7.out c7.1 c7.2.1 (by decide) c7.2.2.1 c7.2.2.2 (by have := c7.1; simp; omega)) (fun b hb => by have := iB.out b hb; omega) hpm (Nat.le_refl 2) h2 hn2 hB k17.out htab).mono ?_
 rintro e v8 ⟨ay, cy, Fb8, rfl, hIy, hfy, hGb, hFb8, hB8⟩
 generalize hrb : runW 2000 8 (⟨[cst 0, cst 1], ra.1.c, ra.1.er⟩, [0, 1]) (R2.take 40) = rb at *
 have k18 := hide (k17.out.trans (hB8.below (fun b hb => by rcases hb with rfl | hb; omega; have := iB.out b hb; omega) k17.out.size))
 have iB8 : ∀ b, Fb8 b → (v3.heap.size ≤ b ∧ b < v4.heap.size) ∨ v7.heap.size ≤ b := fun b hb => (hFb8 b hb).imp (iB.out b) id
 have hXa8 := hide (hXa7.out.but hB8 fun b hb hf => by have h9 := iA7.out b hb; rcases hf with rfl | hf; omega; have h8 := iB.out b hf; omega)
 have hGc8 := hide (hGc7.out.move hB8.size fun b hb => hB8.block b (hb.elim (hGc7.out.fl b) fun e => e ▸ hGc7.out.mb.lt) fun hf => by have h9 : v4.heap.size ≤ b := hb.elim (fun h => (iC.out b h).1) (fun e => by omega); rcases hf with rfl | hf; omega; have h8 := iB.out b hf; omega)
 have hGd8 := hide (hGd7.out.move hB8.size fun b hb => hB8.block b (hb.elim (hGd7.out.fl b) fun e => e ▸ hGd7.out.mb.lt) fun hf => by have h9 : v5.heap.size ≤ b := hb.elim (fun h => (iD.out b h).1) (fun e => by omega); rcases hf with rfl | hf; omega; have h8 := iB.out b hf; omega)
 have hIx8 := hide (hIx.out.but hfx.out hB8 fun b hb _ hf => by have h9 := hb.1; rcases hf with rfl | hf; omega; have h8 := iB.out b hf; omega)
 have hM8 := hide hGb.mb
 have hXb8 := hide hGb.ax
 have s8 := hB8.size
 have l8 : (rb.1.L.length : Int) ≤ 2002 := by have h9 := hGb.ln; have h8 := hGb.cn; omega
 have c8 : 0 ≤ rb.1.c ∧ rb.1.c ≤ 2000 ∧ 0 ≤ rb.1.er ∧ rb.1.er < 256 := ⟨hGb.c0, hGb.cn, hGb.e0, hGb.e2⟩
 replace hIy := hide hIy
 replace hfy := hide hfy
 replace iB8 := hide iB8
 clear hGb hFb8 hB8 hXa7 hXb7 hGc7 hGd7 hM7 k17 hIx
 go_wp2_with fail
 refine (built_n (nn := 2000) (kk := 8) (s := st0) hGc8.out (fun b hb => by have := iC.out b hb; omega) (by omega) (by decide) h1 hn1 hB k18.out htab).mono ?_
 rintro e v9 ⟨az, cz, Fc9, rfl, hIz, hfz, hGc9, hFc9, hB9⟩
 rw [hra] at hIz hfz hGc9 ⊢
 have k19 := hide (k18.out.trans (hB9.below (fun b hb => by rcases hb with rfl | hb; omega; have := iC.out b hb; omega) k18.out.size))
 have iC9 : ∀ b, Fc9 b → (v4.heap.size ≤ b ∧ b < v5.heap.size) ∨ v8.heap.size ≤ b := fun b hb => (hFc9 b hb).imp (iC.out b) id
 have hXa9 := hide (hXa8.out.but hB9 fun b hb hf => by have h9 := iA7.out b hb; rcases hf with rfl | hf; omega; have h8 := iC.out b hf; omega)
 have hXb9 := hide (hXb8.out.but hB9 fun b hb hf => by have h9 := iB8.out b hb; rcases hf with rfl | hf; omega; have h8 := iC.out b hf; omega)
 have hGd9 := hide (hGd8.out.move hB9.size fun b hb => hB9.block b (hb.elim (hGd8.out.fl b) fun e => e ▸ hGd8.out.mb.lt) fun hf => by have h9 : v5.heap.size ≤ b := hb.elim (fun h => (iD.out b h).1) (fun e => by omega); rcases hf with rfl | hf; omega; have h8 := iC.out b hf; omega)
 have hM9 : Hid (MB v9 pm 2000 8 rb.1.c rb.1.er) := hide ((hB9.block pm hM8.out.lt fun hf => by rcases hf with hf | hf; omega; have h8 := iC.out pm hf; omega).trans hM8.out)
 have hIx9 := hide (hIx8.out.but hfx.out hB9 fun b hb _ hf => by have h9 := hb.1; rcases hf with rfl | hf; omega; have h8 := iC.out b hf; omega)
 have hIy9 := hide (hIy.out.but hfy.out hB9 fun b hb _ hf => by have h9 := hb.1; rcases hf with rfl | hf; omega; have h8 := iC.out b hf; omega)
 have hXc9 := hide hGc9.ax
 have s9 := hB9.size
 replace hIz := hide hIz
 replace hfz := hide hfz
 replace iC9 := hide iC9
 clear hGc9 hFc9 hB9 hXa8 hXb8 hGc8 hGd8 hM8 k18 hIx8 hIy
 go_wp2_with fail
 refine (built_n (nn := 2000) (kk := 8) (s := st0) hGd9.out (fun b hb => by have := iD.out b hb; omega) (by omega) (by decide) h2 hn2 hB k19.out htab).mono ?_
 rintro e v10 ⟨au, cu, Fd10, rfl, hIu, hfu, hGd10, hFd10, hB10⟩
 generalize hrd : runW 2000 8 (st0, [0, 1]) (R2.take 40) = rd at *
 have k110 := hide (k19.out.trans (hB10.below (fun b hb => by rcases hb with rfl | hb; omega; have := iD.out b hb; omega) k19.out.size))
 have hXa10 := hide (hXa9.out.but hB10 fun b hb hf => by have h9 := iA7.out b hb; rcases hf with rfl | hf; omega; have h8 := iD.out b hf; omega)
 have hXb10 := hide (hXb9.out.but hB10 fun b hb hf => by have h9 := iB8.out b hb; rcases hf with rfl | hf; omega; have h8 := iD.out b hf; omega)
 have hXc10 := hide (hXc9.out.but hB10 fun b hb hf => by have h9 := iC9.out b hb; rcases hf with rfl | hf; omega; have h8 := iD.out b hf; omega)
 have hM10 : Hid (MB v10 pm 2000 8 rb.1.c rb.1.er) := hide ((hB10.block pm hM9.out.lt fun hf => by rcases hf with hf | hf; omega; have h8 := iD.out pm hf; omega).trans hM9.out)
 have hIx10 := hide (hIx9.out.but hfx.out hB10 fun b hb _ hf => by have h9 := hb.1; rcases hf with rfl | hf; omega; have h8 := iD.out b hf; omega)
 have hIy10 := hide (hIy9.out.but hfy.out hB10 fun b hb _ hf => by have h9 := hb.1; rcases hf with rfl | hf; omega; have h8 := iD.out b hf; omega)
 have hIz10 := hide (hIz.out.but hfz.out hB10 fun b hb _ hf => by have h9 := hb.1; rcases hf with rfl | hf; omega; have h8 := iD.out b hf; omega)
 have hXd10 := hide hGd10.ax
 replace hIu := hide hIu
 clear hGd10 hFd10 hB10 hXa9 hXb9 hXc9 hGd9 hM9 k19 hIx9 hIy9 hIz iA7 iB8 iC9 iA iB iC iD hfx hfy hfz hfu
 go_wp2_with fail
 refine (spent_n hM10.out c8.1 c8.2.1 c8.2.2.1 c8.2.2.2).mono ?_
 rintro e v11 ⟨rfl, k11⟩
 have k111 := hide (grow_step k11 k110.out)
 replace hXa10 := hide (hXa10.out.below k11)
 replace hXb10 := hide (hXb10.out.below k11)
 replace hXc10 := hide (hXc10.out.below k11)
 replace hXd10 := hide (hXd10.out.below k11)
 replace hM10 := hide (hM10.out.below k11)
 replace hIx10 := hide (hIx10.out.below k11)
 replace hIy10 := hide (hIy10.out.below k11)
 replace hIz10 := hide (hIz10.out.below k11)
 replace hIu := hide (hIu.out.below k11)
 clear k11 k110
 go_wp2_with fail
 refine (over_n hM10.out c8.1 c8.2.1 c8.2.2.1 c8.2.2.2).mono ?_
 rintro e v12 ⟨rfl, k12⟩
 have k112 := hide (grow_step k12 k111.out)
 replace hXa10 := hide (hXa10.out.below k12)
 replace hXb10 := hide (hXb10.out.below k12)
 replace hXc10 := hide (hXc10.out.below k12)
 replace hXd10 := hide (hXd10.out.below k12)
 replace hIx10 := hide (hIx10.out.below k12)
 replace hIy10 := hide (hIy10.out.below k12)
 replace hIz10 := hide (hIz10.out.below k12)
 replace hIu := hide (hIu.out.below k12)
 clear k12 k111 hM10
 by_cases he : rb.1.er = 0
 ·obtain ⟨hlow, hids, hcnt⟩ : rd.1.L = rb.1.L ∧ rd.2 = rb.2 ∧ rb.1.c = (ra.1.L.length : Int) + rb.1.L.length - 4 := by
   have hle := run_le 2000 8 (R2.take 40) (⟨[cst 0, cst 1], ra.1.c, ra.1.er⟩ : St) [0, 1]
   rw [hrb] at hle
   have her : ra.1.er = 0 := hle.er he
   have hl := run_low (nn := 2000) (kk := 8) (R2.take 40) (s := ⟨[cst 0, cst 1], ra.1.c, ra.1.er⟩) (t := st0) (ids := [0, 1]) ⟨rfl, rfl, her, c7.1⟩ st0_uq (by rw [hrb]; exact he)
   rw [hrb, hrd] at hl
   have ha := run_count 2000 8 (R1.take 40) st0 [0, 1]
   rw [hra] at ha
   have hb := run_count 2000 8 (R2.take 40) (⟨[cst 0, cst 1], ra.1.c, ra.1.er⟩ : St) [0, 1]
   rw [hrb] at hb
   refine ⟨hl.1.1, hl.2, ?_⟩
   simp [st0] at ha hb
   omega
  have hlx : ra.2.length ≤ 42 := by
   have h9 := run_len 2000 8 (R1.take 40) (st0, [0, 1])
   rw [hra, List.length_take] at h9
   simp at h9
   omega
  have hly : rb.2.length ≤ 42 := by
   have h9 := run_len 2000 8 (R2.take 40) (⟨[cst 0, cst 1], ra.1.c, ra.1.er⟩, [0, 1])
   rw [hrb, List.length_take] at h9
   simp at h9
   omega
  rw [hids] at hIu ⊢
  rw [hlow] at hXd10
  rw [he, hcnt]
  clear he hids hlow hra hrb hrd c7 c8 hcnt
  generalize ra.2 = xs at *
  generalize rb.2 = ys at *
  generalize ra.1.L = La at *
  generalize rb.1.L = Lb at *
  go_wp2_with fail
  refine (ints_n hIx10.out hIz10.out (by omega)).mono ?_
  rintro e v13 ⟨rfl, k13⟩
  rw [decide_eq_true rfl]
  have k113 := hide (grow_step k13 k112.out)
  replace hXa10 := hide (hXa10.out.below k13)
  replace hXb10 := hide (hXb10.out.below k13)
  replace hXc10 := hide (hXc10.out.below k13)
  replace hXd10 := hide (hXd10.out.below k13)
  replace hIy10 := hide (hIy10.out.below k13)
  replace hIu := hide (hIu.out.below k13)
  clear k13 k112 hIx10 hIz10
  go_wp2_with fail
  refine (ints_n hIy10.out hIu.out (by omega)).mono ?_
  rintro e v14 ⟨rfl, k14⟩
  rw [decide_eq_true rfl]
  have k114 := hide (grow_step k14 k113.out)
  have la := hide (hXa10.out.below k14).len
  have lb := hide (hXb10.out.below k14).len
  have lc := hide (hXc10.out.below k14).len
  have ld := hide (hXd10.out.below k14).len
  clear k14 k113 hIy10 hIu hXa10 hXb10 hXc10 hXd10
  go_wp2_with fail
  refine la.out.mono ?_
  rintro e w9 ⟨rfl, rfl⟩
  go_wp2_with fail
  refine lc.out.mono ?_
  rintro e w9 ⟨rfl, rfl⟩
  go_wp2_with fail
  refine lb.out.mono ?_
  rintro e w9 ⟨rfl, rfl⟩
  go_wp2_with fail
  refine ld.out.mono ?_
  rintro e w9 ⟨rfl, rfl⟩
  go_wp2_with fail
  refine la.out.mono ?_
  rintro e w9 ⟨rfl, rfl⟩
  go_wp2_with fail
  refine lb.out.mono ?_
  rintro e w9 ⟨rfl, rfl⟩
  go_wp2_with fail
  go_ret
  exact ⟨rfl, k114.out⟩
 ·have he' : (rb.1.er != 0) = true := by simpa using he
  clear hXa10 hXb10 hXc10 hXd10 hIx10 hIy10 hIz10 hIu
  go_wp2
  go_ret
  exact ⟨rfl, k112.out⟩
end Go.Proofs.YtjdghmkolkidpaaGreatDoor
