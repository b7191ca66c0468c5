/-
 Several texts in one: EY, LArenaLets.
-/
import Derived.Test.YtjdghmkolkidpaaGreatDoorV39
import Derived.Laws.AppendOwnNone
namespace Go.Proofs.YtjdghmkolkidpaaGreatDoor
open Go.RowKit Go.Sort Go.Shelf
open Tm At
namespace Nt

/-- how a wanted node lies in memory -/
structure QR where
 sd : Bool
 ad : Option Addr
 ld : Nat
 cd : Nat
 ap : Option Addr
 np : Nat
 cp : Nat
 sk : Bool
 ak : Option Addr
 lk : Nat
 ck : Nat
 ka : Option Addr
 kn : Nat
 kc : Nat
def mkE (p : Mk × QR) : List Value := [.int .i64 p.1.kind, .int .i64 p.1.xk, .bool p.2.sd, .slice p.2.ad p.2.ld p.2.cd, .slice p.2.ap p.2.np p.2.cp, .bool p.2.sk, .slice p.2.ak p.2.lk p.2.ck, .int .i64 p.1.v, .slice p.2.ka p.2.kn p.2.kc]
def mkF (Z : List (Mk × QR)) : List Value := Z.flatMap mkE
def MQ (w : World) (p : Mk × QR) (B : Nat) : Prop :=
 Zm w p.2.sd p.2.ad p.2.ld p.2.cd p.1.xd ∧ p.2.ld ≤ B ∧ Pr w p.2.ap p.2.np p.1.xp B ∧ p.2.np ≤ 209716 ∧ Zm w p.2.sk p.2.ak p.2.lk p.2.ck p.1.xt ∧ p.2.lk ≤ B ∧ IL w p.2.ka p.2.kn p.1.kids ∧ p.2.kn ≤ B ∧ I64 p.1.kind ∧ I64 p.1.v
theorem MQ.below {w w' : World} {p : Mk × QR} {B : Nat} (h : MQ w p B) (k : Below w.heap.size w w') : MQ w' p B := by
 obtain ⟨g1, g2, g3, g4, g5, g6, g7, g8⟩ := h
 exact ⟨g1.below k, g2, g3.below k, g4, g5.below k, g6, g7.below k, g8⟩
theorem mkE_len (p : Mk × QR) : (mkE p).length = 9 := rfl
theorem mkF_len (Z : List (Mk × QR)) : (mkF Z).length = Z.length * 9 := by
 induction Z with
 | nil => rfl
 | cons p Z ih =>
  have h : (mkF (p :: Z)).length = 9 + (mkF Z).length := by simp [mkF, mkE_len]
  rw [h, ih, List.length_cons]
  omega
theorem mkF_get : ∀ (Z : List (Mk × QR)) (i j : Nat) (h : i < Z.length), j < 9 → (mkF Z)[i * 9 + j]? = (mkE Z[i])[j]?
 | [], i, j, h, _ => absurd h (Nat.not_lt_zero _)
 | p :: Z, 0, j, _, hj => by
  unfold mkF
  rw [List.flatMap_cons, List.getElem?_append_left (by rw [mkE_len]; omega)]
  simp
 | p :: Z, i + 1, j, h, hj => by
  have h1 := mkF_get Z i j (by simpa using h) hj
  unfold mkF at h1 ⊢
  rw [List.flatMap_cons, List.getElem?_append_right (by rw [mkE_len]; omega), show (i + 1) * 9 + j - (mkE p).length = i * 9 + j by rw [mkE_len]; omega, h1]
  rfl
theorem ml_open {w : World} {b B : Nat} : ∀ (R : List Mk) (off : Nat), (∀ i (h : i < R.length), MA w b (off + i * 9) R[i] B) → ∃ Z : List (Mk × QR), Z.map Prod.fst = R ∧ (∀ p ∈ Z, MQ w p B) ∧ ∀ j u, (mkF Z)[j]? = some u → w.cell? ⟨b, off + j, none⟩ = some u
 | [], off, _ => ⟨[], rfl, by simp, fun j u h => by simp [mkF] at h⟩
 | m :: R, off, h => by
  obtain ⟨sd, ad, ld, cd, ap, np, cp, sk, ak, lk, ck, ka, kn, kc, h9, hq⟩ := h 0 (by simp)
  obtain ⟨Z, hZ1, hZ2, hZ3⟩ := ml_open R (off + 9) fun i hi => by
   have h1 := h (i + 1) (by simpa using hi)
   rwa [show off + (i + 1) * 9 = off + 9 + i * 9 by omega] at h1
  refine ⟨(m, ⟨sd, ad, ld, cd, ap, np, cp, sk, ak, lk, ck, ka, kn, kc⟩) :: Z, by rw [List.map_cons, hZ1], fun p hp => ?_, fun j u hu => ?_⟩
  ·rcases List.mem_cons.1 hp with rfl | hp
   ·exact hq
   ·exact hZ2 p hp
  ·by_cases hj : j < 9
   ·unfold mkF at hu
    rw [List.flatMap_cons, List.getElem?_append_left (by rw [mkE_len]; omega)] at hu
    match j, hj with
    | 0, _ => rw [← hu]; exact h9.c0
    | 1, _ => rw [← hu]; exact h9.c1
    | 2, _ => rw [← hu]; exact h9.c2
    | 3, _ => rw [← hu]; exact h9.c3
    | 4, _ => rw [← hu]; exact h9.c4
    | 5, _ => rw [← hu]; exact h9.c5
    | 6, _ => rw [← hu]; exact h9.c6
    | 7, _ => rw [← hu]; exact h9.c7
    | 8, _ => rw [← hu]; exact h9.c8
   ·unfold mkF at hu
    rw [List.flatMap_cons, List.getElem?_append_right (by rw [mkE_len]; omega), mkE_len] at hu
    have h2 := hZ3 (j - 9) u hu
    rwa [show off + 9 + (j - 9) = off + j by omega] at h2
theorem ml_close {w : World} {g B : Nat} {Z : List (Mk × QR)} (hg : g < w.heap.size) (hQ : ∀ p ∈ Z, MQ w p B) (hc : ∀ j u, (mkF Z)[j]? = some u → w.cell? ⟨g, j, none⟩ = some u) : ML w (some ⟨g, 0, none⟩) Z.length (Z.map Prod.fst) B := by
 refine ⟨by simp, .inr ⟨g, 0, rfl, hg, fun i hi => ?_⟩⟩
 have hi2 : i < Z.length := by simpa using hi
 have hq := hQ Z[i] (List.getElem_mem hi2)
 have hcc : ∀ j (hj : j < 9), w.cell? ⟨g, 0 + i * 9 + j, none⟩ = some ((mkE Z[i])[j]'(by rw [mkE_len]; exact hj)) := fun j hj => by
  rw [Nat.zero_add]
  exact hc _ _ ((mkF_get Z i j hi2 hj).trans (List.getElem?_eq_getElem _))
 rw [List.getElem_map]
 generalize Z[i] = p at *
 obtain ⟨m, q⟩ := p
 exact ⟨q.sd, q.ad, q.ld, q.cd, q.ap, q.np, q.cp, q.sk, q.ak, q.lk, q.ck, q.ka, q.kn, q.kc, ⟨hcc 0 (by decide), hcc 1 (by decide), hcc 2 (by decide), hcc 3 (by decide), hcc 4 (by decide), hcc 5 (by decide), hcc 6 (by decide), hcc 7 (by decide), hcc 8 (by decide)⟩, hq⟩
theorem mkE_one (p : Mk × QR) : ∀ u ∈ mkE p, u.oneCell' = true := by
 intro u hu
 simp only [mkE, List.mem_cons, List.not_mem_nil, or_false] at hu
 rcases hu with rfl | rfl | rfl | rfl | rfl | rfl | rfl | rfl | rfl <;> rfl
theorem mkF_one (Z : List (Mk × QR)) : ∀ u ∈ mkF Z, u.oneCell' = true := by
 intro u hu
 obtain ⟨p, _, hp⟩ := List.mem_flatMap.1 hu
 exact mkE_one p u hp
theorem infoM : (Tryz.prog.info? 67).map (fun i => (i.zero, i.size, i.bytes)) = some (some (.agg #[.int .i64 0, .int .i64 0, .bool false, .slice none 0 0, .slice none 0 0, .bool false, .slice none 0 0, .int .i64 0, .slice none 0 0]), 9, 136) := by kernel_rfl
/-- a recipe that came in: what it holds, and where -/
theorem ml_data {w : World} {ad : Option Addr} {n : Nat} {R : List Mk} {B : Nat} (h : ML w ad n R B) : ∃ Z : List (Mk × QR), Z.map Prod.fst = R ∧ Z.length = n ∧ (∀ p ∈ Z, MQ w p B) ∧ ∀ a0, ad = some a0 → ∀ j u, (mkF Z)[j]? = some u → w.cell? (a0.add j) = some u := by
 rcases h.2 with h0 | ⟨b, off, rfl, hb, h2⟩
 ·subst h0
  have hR : R = [] := List.eq_nil_of_length_eq_zero h.1
  exact ⟨[], by rw [hR]; rfl, rfl, by simp, fun a0 _ j u hu => by simp [mkF] at hu⟩
 ·obtain ⟨Z, h3, h4, h5⟩ := ml_open R off h2
  refine ⟨Z, h3, by rw [← h.1, ← h3, List.length_map], h4, fun a0 e j u hu => ?_⟩
  cases e
  rw [Addr.add_lit]
  exact h5 j u hu
theorem app_mk {w : World} {ops : Array Oper} {rest : List Oper} {o : Oper} {a : Act} {Q : Exit → Act → World → Prop} (hgd : o.guard = none) (s x : Operand) (ho : o.op = .call { callee := .builtin .append, args := #[s, x], argTypes := #[22, 22] }) (base : Nat) (v : Value) (n : Nat) (xs : List Value) (hs : a.eval s = v) (hown : w.ownsRow base 67 9 v n xs)
  (ad : Option Addr) (m c : Nat) (Z : List (Mk × QR)) (hx : a.eval x = .slice ad m c) (hzn : ad = none → m = 0 ∧ c = 0) (hZ : Z.length = m) (hc : ∀ a0, ad = some a0 → ∀ j u, (mkF Z)[j]? = some u → w.cell? (a0.add j) = some u) (h63 : n + m ≤ 1048576) (hbase : base ≤ w.heap.size)
  (h : ∀ v' w', w'.ownsRow base 67 9 v' (n + m) (xs ++ mkF Z) → w.grownBy w' v.ownBlock → (v'.ownBlock = v.ownBlock ∨ v'.ownBlock = some w.heap.size) → wpList Tryz.prog ops Q rest (a.put o.dst v') w') : wpList Tryz.prog ops Q (o :: rest) a w := by
 obtain ⟨i0, hi, hz0, hz1, hz2⟩ := info_parts infoM
 cases ad with
 | none =>
  obtain ⟨rfl, rfl⟩ := hzn rfl
  obtain rfl : Z = [] := List.eq_nil_of_length_eq_zero hZ
  refine wpList_append_own_none hgd s x 22 ho base 67 i0 9 Tryz.underlying22 hi v n xs hs hown hx ?_
  exact h v w (by simpa [mkF] using hown) ⟨rfl, rfl, rfl, Nat.le_refl _, fun _ _ _ => rfl⟩ (.inl rfl)
 | some a0 =>
  refine wpList_append_own_at w hgd s x 22 ho base 67 i0 _ 9 136 Tryz.underlying22 hi hz0 hz1 hz2 rfl (by decide) v n xs hs hown a0 m c (mkF Z) hx (by rw [mkF_len, hZ]) (hc a0 rfl) (mkF_one Z) (by unfold maxLen; omega) (by omega) hbase ?_
  intro v' w' h1 h2 _ h4
  exact h v' w' h1 h2 h4
/-- a row of wanted nodes of one's own: where it lies, and that it is read as long as it is left -/
theorem all_ml {w : World} {base B : Nat} {v : Value} {Z : List (Mk × QR)} (h : w.ownsRow base 67 9 v Z.length (mkF Z)) :
  ∃ ad c, v = .slice ad Z.length c ∧ InF (fun b => base ≤ b ∧ b < w.heap.size) ad Z.length ∧ ∀ w', (∀ g, v.ownBlock = some g → w'.heap[g]? = w.heap[g]?) → w.heap.size ≤ w'.heap.size → (∀ p ∈ Z, MQ w' p B) → ML w' ad Z.length (Z.map Prod.fst) B := by
 rcases h.2 with ⟨rfl, h0⟩ | ⟨g, cap, cur, rfl, hg, hcur, h1, h2, h3, h4⟩
 ·have hZ : Z = [] := List.eq_nil_of_length_eq_zero h0
  subst hZ
  exact ⟨none, 0, rfl, fun _ _ e => (by cases e), fun w' _ _ _ => ⟨rfl, .inl rfl⟩⟩
 ·have hgl : g < w.heap.size := (Array.getElem?_eq_some_iff.1 hcur).1
  refine ⟨_, cap, rfl, fun b off e _ => (by cases e; exact ⟨hg, hgl⟩), fun w' hm hs hQ => ?_⟩
  refine ml_close (Nat.lt_of_lt_of_le hgl hs) hQ fun j u hu => ?_
  rw [cell_of_row w' g j _ _ (0, 0) ((hm g rfl).trans hcur)]
  rw [← h4, List.getElem?_take] at hu
  split at hu
  ·simpa using hu
  ·cases hu
end Nt
end Go.Proofs.YtjdghmkolkidpaaGreatDoor

namespace Go.Proofs.YtjdghmkolkidpaaGreatDoor
open Go.RowKit Go.Sort Go.Shelf
open Tm At
open Nt

/-- Release, in the words of an arena and its meter -/
theorem release_ag {w : World} {pa pm : Nat} {nn kk : Int} {s : St} {F : Nat → Prop} {n : Nat} (hG : AG w pa pm nn kk s F) (hn2 : 2 ≤ n) (hn : n ≤ s.L.length) (htab : ∀ w', ButF F w w' → Tab w') :
  Calls Tryz.prog 16 #[.pointer (some ⟨pa, 0, none⟩), .int .i64 (n : Int)] w fun e w' => e = .returned (.int .i64 0) ∧ AG w' pa pm nn kk ⟨s.L.take n, s.c, s.er⟩ F ∧ ButF F w w' := by
 obtain ⟨C, nv, bm, X, D, hA, hpm, hF⟩ := hG.ar
 have h1 := hG.cn
 have h2 := hG.n2
 have h3 := hG.ln
 have hsub : ∀ b, (b = pa ∨ b = bm ∨ nv.ownBlock = some b) → F b := fun b hb => hF b (by
  rcases hb with hb | hb | hb
  ·exact .inl hb
  ·exact .inr (.inl hb)
  ·exact .inr (.inr (.inl hb)))
 refine (release8_n hA hn2 hn (by omega) fun w' h => htab w' (h.mono hsub)).mono ?_
 rintro e w' ⟨rfl, nv', D', hA', hob, hB⟩
 have hFF : ∀ b, FF pa bm nv' C b → FF pa bm nv C b := fun b hb => by
  rcases hb with hb | hb | hb | hb
  ·exact .inl hb
  ·exact .inr (.inl hb)
  ·exact .inr (.inr (.inl (hob ▸ hb)))
  ·exact .inr (.inr (.inr hb))
 have hml : pm < w.heap.size := hG.mb.lt
 have hmb : MB w' pm nn kk s.c s.er := (hB.block pm hml fun hb => hpm (by
  rcases hb with hb | hb | hb
  ·exact .inl hb
  ·exact .inr (.inl hb)
  ·exact .inr (.inr (.inl hb)))).trans hG.mb
 exact ⟨rfl, ⟨⟨C, nv', bm, X.take n, D', hA', fun hf => hpm (hFF pm hf), fun b hb => hF b (hFF b hb)⟩, hmb, hG.c0, hG.cn, hG.n2, hG.e0, hG.e2, by show ((s.L.take n).length : Int) ≤ s.c + 2; rw [List.length_take]; omega, fun b hb => Nat.lt_of_lt_of_le (hG.fl b hb) hB.size⟩, hB.mono hsub⟩

set_option maxRecDepth 100000 in
theorem node8_gone {w : World} {pa pm : Nat} {L : List Nd} {F : Nat → Prop} (h : AX w pa pm L F) : Calls Tryz.prog 14 #[.pointer (some ⟨pa, 0, none⟩), .int .i64 (L.length : Int)] w fun e w' => e = .returned (.tuple #[.agg #[.int .i64 0, .bool false, .slice none 0 0, .slice none 0 0, .bool false, .slice none 0 0, .int .i64 0, .slice none 0 0], .bool false]) ∧ Below w.heap.size w w' := by
 obtain ⟨C, nv, bm, X, D, hA, -, -⟩ := h.ar
 have b0 := below_alloc w (.cells #[.int .i64 0, .bool false, .slice none 0 0, .slice none 0 0, .bool false, .slice none 0 0, .int .i64 0, .slice none 0 0] 39)
 have hlk := hide (lacks_n (hA.below b0) (L.length : Int))
 rw [decide_eq_true (.inr (Int.le_refl _))] at hlk
 have y := NB.new w 0 false none 0 0 none 0 0 false none 0 0 0 none 0 0
 clear hA h
 go_enter Tryz.func14, Tryz.ntmps14
 go_wp2_with (go_at_call 33; refine hlk.out.mono ?_; rintro e w1 ⟨rfl, rfl⟩)
 refine bodyPost_ret (results_ct rfl _ _ w.heap.size 39 _ (0, 0) _ rfl y Tryz.underlying39 rfl (by kernel_rfl)) rfl ?_
 exact ⟨rfl, b0⟩

set_option maxRecDepth 100000 in
set_option maxHeartbeats 6400000 in
theorem arenaLets_walk {w0 : World} {ad1 : Option Addr} {n1 c1 : Nat} {R1 : List Mk} {ad2 : Option Addr} {n2 c2 : Nat} {R2 : List Mk} {B : Nat} (h1 : ML w0 ad1 n1 R1 B) (h2 : ML w0 ad2 n2 R2 B) (hz1 : ad1 = none → n1 = 0 ∧ c1 = 0) (hz2 : ad2 = none → n2 = 0 ∧ c2 = 0) (hn1 : n1 + n2 ≤ 1048576) (hB : B ≤ 1048576) (htab : Tab w0) :
  Calls Tryz.prog 4 #[.slice ad1 n1 c1, .slice ad2 n2 c2] w0 fun e w' => e = .returned (.bool true) ∧ Below w0.heap.size w0 w' := by
 go_enter Tryz.func4, Tryz.ntmps4
 go_wp2_with fail
 refine (awake8_n htab).mono ?_
 rintro e v1 ⟨rfl, k1⟩
 have ht1 := hide (htab.below k1)
 go_wp2_with fail
 refine (new_ag ht1.out).mono ?_
 rintro e v2 ⟨pa, pm, Fa, rfl, hGa, hFa, hpm, k2⟩
 have k12 := hide (grow_step k2 k1)
 have s1 := k1.size
 replace hGa := hide hGa
 have iA : Hid (∀ b, Fa b → w0.heap.size ≤ b) := hide fun b hb => by have := hFa b hb; omega
 replace hpm : w0.heap.size ≤ pm := by omega
 clear k1 k2 ht1 hFa
 go_wp2_with fail
 refine (built_n (nn := 2000) (kk := 8) (s := st0) hGa.out iA.out hpm (by decide) h1 (by omega) hB k12.out htab).mono ?_
 rintro e v3 ⟨ax, cx, F3, rfl, hIx, hfx, hG3, hF3, hB3⟩
 clear hIx hfx
 have hle1 := run_le 2000 8 (R1.take 40) st0 [0, 1]
 generalize hra : runW 2000 8 (st0, [0, 1]) (R1.take 40) = ra at *
 have h2L : 2 ≤ ra.1.L.length := by
  obtain ⟨⟨t, ht⟩, _⟩ := hle1
  rw [ht]
  simp [st0]
 have huq : Uq ra.1.L := hG3.uq
 have k13 := hide (k12.out.trans (hB3.below (fun b hb => hb.elim (fun e => by omega) (iA.out b)) k12.out.size))
 have s2 := k12.out.size
 have i3 : Hid (∀ b, F3 b → w0.heap.size ≤ b) := hide fun b hb => (hF3 b hb).elim (iA.out b) fun h => by omega
 have hLn3 : (ra.1.L.length : Int) ≤ 2002 := by have h9 := hG3.ln; have h8 := hG3.cn; omega
 have l3 := hide hG3.ax.len
 replace hG3 := hide hG3
 clear hGa hF3 hB3 k12 hle1
 go_wp2_with fail
 refine l3.out.mono ?_
 rintro e w9 ⟨rfl, rfl⟩
 clear l3
 obtain ⟨Z1, hZ1, hZn1, hQ1, hc1⟩ := ml_data h1
 obtain ⟨Z2, hZ2, hZn2, hQ2, hc2⟩ := ml_data h2
 have hcb : ∀ w', Below w0.heap.size w0 w' → ∀ (a0 : Addr) (u : Value), w0.cell? a0 = some u → w'.cell? a0 = some u := fun w' k a0 u hu => (k.cell (p := a0) (World.block_lt_of_cell? w0 a0 hu)).trans hu
 have hQ0 : Hid (∀ w', Below w0.heap.size w0 w' → ∀ p ∈ Z1 ++ Z2, MQ w' p B) := hide fun w' k p hp => ((List.mem_append.1 hp).elim (hQ1 p) (hQ2 p)).below k
 have hlen12 : (Z1 ++ Z2).length = n1 + n2 := by rw [List.length_append, hZn1, hZn2]
 have hmap12 : (Z1 ++ Z2).map Prod.fst = R1 ++ R2 := by rw [List.map_append, hZ1, hZ2]
 have hpw : pm < w9.heap.size := hG3.out.mb.lt
 have hflw := hide hG3.out.fl
 have hcw1 : Hid (∀ a0, ad1 = some a0 → ∀ j u, (mkF Z1)[j]? = some u → w9.cell? (a0.add j) = some u) := hide fun a0 e j u hu => hcb w9 k13.out _ _ (hc1 a0 e j u hu)
 clear h1 h2 hQ1 hQ2 hc1
 go_wp2_with (first | (at_builtin; refine app_mk rfl _ _ rfl w9.heap.size (.slice none 0 0) 0 [] rfl (World.ownsRow_nil _ _ _ _) ad1 n1 c1 Z1 rfl hz1 hZn1 hcw1.out (by omega) (Nat.le_refl _) ?_; intro va w4 hown4 hgrow4 hat4) | (at_builtin; refine app_mk rfl _ _ rfl w9.heap.size va (0 + n1) ([] ++ mkF Z1) rfl hown4 ad2 n2 c2 Z2 rfl hz2 hZn2 (fun a0 e j u hu => hcb w4 (k13.out.grown hgrow4 k13.out.size (fun k e => by cases e)) _ _ (hc2 a0 e j u hu)) (by omega) hgrow4.size ?_; intro vb w5 hown5 hgrow5 hat5))
 have hk5 : Hid (Below w9.heap.size w9 w5) := hide (((Below.refl w9.heap.size w9).grown hgrow4 (Nat.le_refl _) (fun k e => by cases e)).grown hgrow5 hgrow4.size (fun k e => (hown4.lt k e).1))
 have hrow5 : w5.ownsRow w9.heap.size 67 9 vb (Z1 ++ Z2).length (mkF (Z1 ++ Z2)) := by
  have h9 := hown5
  rw [List.nil_append, Nat.zero_add] at h9
  rw [hlen12, show mkF (Z1 ++ Z2) = mkF Z1 ++ mkF Z2 by simp [mkF]]
  exact h9
 obtain ⟨adA, cA, rfl, hInA, hmlA⟩ := all_ml (B := B) hrow5
 have hobA : ∀ g, (Value.slice adA (Z1 ++ Z2).length cA).ownBlock = some g → w9.heap.size ≤ g ∧ g < w5.heap.size := fun g e => hrow5.lt g e
 rw [hlen12, hmap12] at hmlA
 rw [hlen12] at hInA hobA ⊢
 replace hmlA := hide hmlA
 clear hown4 hown5 hgrow4 hgrow5 hat4 hat5 hrow5 hcw1 hc2 hcb
 have k15 := hide (grow_step hk5.out k13.out)
 have s5 := hk5.out.size
 have hG5 := hide (hG3.out.below hk5.out)
 clear hG3 hk5 k13
 have i3' : ∀ b, F3 b → b < w9.heap.size := hflw.out
 have key5 : Hid (∀ w', ButF (fun b => b = pm ∨ F3 b) w5 w' → Below w0.heap.size w0 w') := hide fun w' h => k15.out.trans (h.below (fun b hb => hb.elim (fun e => by omega) (i3.out b)) k15.out.size)
 have hR12 : (R1 ++ R2).length = n1 + n2 := by rw [← hmap12, List.length_map, hlen12]
 refine (built_g (nn := 2000) (kk := 8) (s := ra.1) hG5.out h2L (fun w' h => hmlA.out w' (fun g e => h.block g (hobA g e).2 fun hf => by have h8 := hobA g e; rcases hf with rfl | hf; omega; have := i3' g hf; omega) h.size (hQ0.out w' (key5.out w' h))) (fun b off e h0 => by have h8 := hInA b off e h0; exact ⟨fun hf => by have := i3' b hf; omega, by omega, h8.2⟩) hR12 hn1 hB fun w' h => htab.below (key5.out w' h)).mono ?_
 rintro e v6 ⟨ay, cy, F6, rfl, hIy, hfy, hG6, hF6, hB6⟩
 have hle2 := run_le 2000 8 ((R1 ++ R2).take 40) ra.1 [0, 1]
 have hcnt2 := run_count 2000 8 ((R1 ++ R2).take 40) ra.1 [0, 1]
 have hrl2 := run_len 2000 8 ((R1 ++ R2).take 40) (ra.1, [0, 1])
 generalize hrb : runW 2000 8 (ra.1, [0, 1]) ((R1 ++ R2).take 40) = rb at *
 have hly : rb.2.length ≤ 42 := by rw [List.length_take] at hrl2; simp at hrl2; omega
 have htk : rb.1.L.take ra.1.L.length = ra.1.L := by
  obtain ⟨⟨t, ht⟩, _⟩ := hle2
  rw [ht, List.take_left' rfl]
 have hnL : ra.1.L.length ≤ rb.1.L.length := by
  obtain ⟨⟨t, ht⟩, _⟩ := hle2
  rw [ht, List.length_append]
  omega
 have k16 := hide (key5.out v6 hB6)
 have i6 : Hid (∀ b, F6 b → w0.heap.size ≤ b) := hide fun b hb => (hF6 b hb).elim (i3.out b) fun h => by have := k15.out.size; omega
 have j6 : Hid (∀ b, F6 b → b < w9.heap.size ∨ w5.heap.size ≤ b) := hide fun b hb => (hF6 b hb).imp (i3' b) id
 have hrow6 : Hid (∀ g, (Value.slice adA (n1 + n2) cA).ownBlock = some g → v6.heap[g]? = w5.heap[g]?) := hide fun g e => hB6.block g (hobA g e).2 fun hf => by have h8 := hobA g e; rcases hf with rfl | hf; omega; have := i3' g hf; omega
 have s6 := hB6.size
 have hLb : (rb.1.L.length : Int) ≤ 2002 := by have h9 := hG6.ln; have h8 := hG6.cn; omega
 have l6 := hide hG6.ax.len
 have rel6 := hide (release_ag hG6 h2L hnL fun w' h => htab.below (k16.out.trans (h.below i6.out k16.out.size)))
 rw [htk] at rel6
 have cb0 : 0 ≤ ra.1.c := hG5.out.c0
 replace hIy := hide hIy
 replace hfy := hide hfy
 clear hG6 hF6 hB6 hG5 k15 key5 hrl2 hflw
 go_wp2_with fail
 refine l6.out.mono ?_
 rintro e w10 ⟨rfl, rfl⟩
 go_wp2_with fail
 refine rel6.out.mono ?_
 rintro e v7 ⟨rfl, hG7, hB7⟩
 have k17 := hide (k16.out.trans (hB7.below i6.out k16.out.size))
 have s7 := hB7.size
 have hrow7 : Hid (∀ g, (Value.slice adA (n1 + n2) cA).ownBlock = some g → v7.heap[g]? = w5.heap[g]?) := hide fun g e => (hB7.block g (by have := (hobA g e).2; omega) fun hf => by have h8 := hobA g e; have := j6.out g hf; omega).trans (hrow6.out g e)
 have hIy7 := hide (hIy.out.but hfy.out hB7 fun b hb _ hf => hb.2 hf)
 have l7 := hide hG7.ax.len
 have g7 := hide (node8_gone hG7.ax)
 replace hG7 := hide hG7
 clear hB7 hIy l6 rel6 k16 hrow6
 go_wp2_with fail
 refine l7.out.mono ?_
 rintro e w11 ⟨rfl, rfl⟩
 go_wp2_with fail
 refine g7.out.mono ?_
 rintro e v8 ⟨rfl, k8⟩
 have k18 := hide (grow_step k8 k17.out)
 have s8 := k8.size
 have hG8 := hide (hG7.out.below k8)
 have hIy8 := hide (hIy7.out.below k8)
 have hrow8 : Hid (∀ g, (Value.slice adA (n1 + n2) cA).ownBlock = some g → v8.heap[g]? = w5.heap[g]?) := hide fun g e => (k8.block g (by have := (hobA g e).2; omega)).trans (hrow7.out g e)
 clear k8 hG7 hIy7 l7 g7 k17 hrow7
 go_wp2_with fail
 have ka := below_alloc v8 (.cells #[.int .i64 0, .bool false, .slice none 0 0, .slice none 0 0, .bool false, .slice none 0 0, .int .i64 0, .slice none 0 0] 39)
 have k19 := hide (grow_step ka k18.out)
 have hG9 := hide (hG8.out.below ka)
 have hIy9 := hide (hIy8.out.below ka)
 have s9 := ka.size
 have hrow9 : Hid (∀ g, (Value.slice adA (n1 + n2) cA).ownBlock = some g → (v8.alloc (.cells #[.int .i64 0, .bool false, .slice none 0 0, .slice none 0 0, .bool false, .slice none 0 0, .int .i64 0, .slice none 0 0] 39)).heap[g]? = w5.heap[g]?) := hide fun g e => (ka.block g (by have := (hobA g e).2; omega)).trans (hrow8.out g e)
 clear ka hG8 hIy8 k18 hrow8
 generalize v8.alloc (.cells #[.int .i64 0, .bool false, .slice none 0 0, .slice none 0 0, .bool false, .slice none 0 0, .int .i64 0, .slice none 0 0] 39) = v9 at *
 have key9 : Hid (∀ w', ButF (fun b => b = pm ∨ F6 b) v9 w' → Below w0.heap.size w0 w') := hide fun w' h => k19.out.trans (h.below (fun b hb => hb.elim (fun e => by omega) (i6.out b)) k19.out.size)
 refine (built_g (nn := 2000) (kk := 8) (s := ⟨ra.1.L, rb.1.c, rb.1.er⟩) hG9.out h2L (fun w' h => hmlA.out w' (fun g e => (h.block g (by have := (hobA g e).2; omega) fun hf => by have h8 := hobA g e; rcases hf with rfl | hf; omega; have := j6.out g hf; omega).trans (hrow9.out g e)) (by have := h.size; omega) (hQ0.out w' (key9.out w' h))) (fun b off e h0 => by have h8 := hInA b off e h0; exact ⟨fun hf => by have := j6.out b hf; omega, by omega, by omega⟩) hR12 hn1 hB fun w' h => htab.below (key9.out w' h)).mono ?_
 rintro e v10 ⟨az, cz, F10, rfl, hIz, hfz, hG10, hF10, hB10⟩
 have hle3 := run_le 2000 8 ((R1 ++ R2).take 40) (⟨ra.1.L, rb.1.c, rb.1.er⟩ : St) [0, 1]
 have hrl3 := run_len 2000 8 ((R1 ++ R2).take 40) (⟨ra.1.L, rb.1.c, rb.1.er⟩, [0, 1])
 generalize hrc : runW 2000 8 (⟨ra.1.L, rb.1.c, rb.1.er⟩, [0, 1]) ((R1 ++ R2).take 40) = rc at *
 have hlz : rc.2.length ≤ 42 := by rw [List.length_take] at hrl3; simp at hrl3; omega
 have k110 := hide (key9.out v10 hB10)
 have hIy10 := hide (hIy9.out.but hfy.out hB10 fun b hb _ hf => by rcases hf with rfl | hf; have := hb.1; omega; exact hb.2 hf)
 have hLc : (rc.1.L.length : Int) ≤ 2002 := by have h9 := hG10.ln; have h8 := hG10.cn; omega
 have l10 := hide hG10.ax.len
 have m10 := hide (meter8_n hG10.ax)
 have o10 := hide (over_n hG10.mb hG10.c0 (by have := hG10.cn; omega) hG10.e0 hG10.e2)
 replace hIz := hide hIz
 clear hG10 hF10 hB10 hfz hfy hG9 hIy9 key9 hrow9 k19 hrl3 hmlA hQ0 i6 j6 hobA hInA
 go_wp2_with fail
 refine l10.out.mono ?_
 rintro e w12 ⟨rfl, rfl⟩
 go_wp2_with fail
 refine m10.out.mono ?_
 rintro e w13 ⟨rfl, rfl⟩
 go_wp2_with fail
 refine o10.out.mono ?_
 rintro e v11 ⟨rfl, k11⟩
 have k111 := hide (grow_step k11 k110.out)
 replace hIy10 := hide (hIy10.out.below k11)
 replace hIz := hide (hIz.out.below k11)
 clear k11 k110 l10 m10 o10
 by_cases he : rc.1.er = 0
 ·obtain ⟨hLe, hids⟩ : rb.1.L = rc.1.L ∧ rb.2 = rc.2 := by
   have heb : rb.1.er = 0 := hle3.er he
   have hea : ra.1.er = 0 := hle2.er heb
   have hl := run_low (nn := 2000) (kk := 8) ((R1 ++ R2).take 40) (s := ⟨ra.1.L, rb.1.c, rb.1.er⟩) (t := ra.1) (ids := [0, 1]) ⟨rfl, hea, heb, show ra.1.c ≤ rb.1.c by omega⟩ huq (by rw [hrc]; exact he)
   rw [hrc, hrb] at hl
   exact ⟨hl.1.1, hl.2⟩
  rw [hids] at hIy10 ⊢
  rw [hLe, he]
  clear hids he hLe
  go_wp2_with fail
  refine (ints_n hIy10.out hIz.out (by omega)).mono ?_
  rintro e v12 ⟨rfl, k12⟩
  rw [decide_eq_true rfl]
  have k112 := hide (grow_step k12 k111.out)
  clear k12 hIy10 hIz
  go_wp2_with fail
  go_ret
  exact ⟨rfl, k112.out⟩
 ·have he' : (rc.1.er != 0) = true := by simpa using he
  clear hIy10 hIz
  go_wp2
  go_ret
  exact ⟨rfl, k111.out⟩
end Go.Proofs.YtjdghmkolkidpaaGreatDoor
