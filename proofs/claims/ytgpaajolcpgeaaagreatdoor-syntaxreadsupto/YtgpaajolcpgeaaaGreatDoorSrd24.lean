/-
 Several texts in one: O7, O8.
-/
import Derived.Test.YtgpaajolcpgeaaaGreatDoorSrd22
import Derived.Test.YtgpaajolcpgeaaaGreatDoorSrd11
import Derived.Maps.OwnIn
namespace Go.Proofs.YtgpaajolcpgeaaaGreatDoor
open Go.RowKit Go.Shelf
namespace Sx

/-- the least number of which something is true, as a measure -/
theorem least_m (R : Nat → Value → World → Prop) : ∃ M : Value → World → Nat, ∀ k v w, R k v w → R (M v w) v w ∧ M v w ≤ k := by
 have h : ∀ (v : Value) (w : World), ∃ m, ∀ k, R k v w → R m v w ∧ m ≤ k := by
  intro v w
  by_cases he : ∃ k, R k v w
  ·obtain ⟨k, hk⟩ := he
   induction k using Nat.strongRecOn with
   | _ k ih =>
    by_cases hl : ∃ j, j < k ∧ R j v w
    ·obtain ⟨j, hj, hr⟩ := hl
     exact ih j hj hr
    ·exact ⟨k, fun i hi => ⟨hk, by
      rcases Nat.lt_or_ge i k with h | h
      ·exact absurd ⟨i, h, hi⟩ hl
      ·exact h⟩⟩
  ·exact ⟨0, fun k hk => absurd ⟨k, hk⟩ he⟩
 exact ⟨fun v w => Classical.choose (h v w), fun k v w hk => Classical.choose_spec (h v w) k hk⟩
theorem appSlIn {Fe : Fence} {nF : Nat} {w : World} {ops : Array Oper} {rest : List Oper} {o : Oper} {a : Act} {Q : Exit → Act → World → Prop} (hgd : o.guard = none) (s x : Operand) (ho : o.op = .call { callee := .builtin .append, args := #[s, x], argTypes := #[94, 94] }) (base : Nat) (v : Value) (n : Nat) (l : List SlT) (hs : a.eval s = v) (hown : w.ownsRow base 26 1 v n (l.map SlT.val))
  (t : SlT) (g : Nat) (hx : a.eval x = .slice (some ⟨g, 0, none⟩) 1 1) (hc : w.cell? ⟨g, 0, none⟩ = some t.val) (h63 : n + 1 ≤ 1099511627776) (hbase : base ≤ w.heap.size)
  (h : ∀ v' w', w'.ownsRow base 26 1 v' (n + 1) ((l ++ [t]).map SlT.val) → w.grownBy w' v.ownBlock → (v'.ownBlock = v.ownBlock ∨ v'.ownBlock = some w.heap.size) → wpListIn Fe nF Tryz.prog ops Q rest (a.put o.dst v') w') : wpListIn Fe nF Tryz.prog ops Q (o :: rest) a w := by
 obtain ⟨i0, hi, hz0, hz1, hz2⟩ := info_parts infoSl
 refine wpListIn_append_own_at w hgd s x 94 ho base 26 i0 _ 1 24 Tryz.underlying94 hi hz0 hz1 hz2 rfl (by decide) v n (l.map SlT.val) hs hown ⟨g, 0, none⟩ 1 1 [t.val] hx rfl (fun j u hu => ?_) (fun u hu => by obtain rfl := List.mem_singleton.1 hu; rfl) (by unfold maxLen; omega) (by omega) hbase ?_
 ·match j, hu with
  | 0, hu =>
   cases hu
   exact hc
 ·intro v' w' h1 h2 _ h4
  refine h v' w' ?_ h2 h4
  rw [List.map_append, List.map_singleton]
  exact h1
/-- the first list: the tree alone -/
theorem tr_first {w0 w : World} {lo f : Nat} {x : TC} {t : Tr} (hx : Rt (fun b => b < lo) w0 x t) (hk : Kf (fun b => b < lo) w0 w) (hlo : lo ≤ w.heap.size) (hf : ¬ Dp f t) :
  TrM (fun b => b < lo ∨ b = w.heap.size + 1) (w.heap.size + 1 + 1) w.heap.size (.slice (some ⟨w.heap.size + 1 + 1, 0, none⟩) 1 1) (((w.alloc (.map #[] 0)).alloc (.cells #[.int .i64 x.k, .string x.nm, .slice x.na x.nn x.nc, .bool x.s, .slice x.a x.l x.c, .slice x.ka x.kn x.kc] 28)).alloc (.cells #[.slice (some ⟨w.heap.size + 1, 0, none⟩) 1 1] 26)) [⟨some ⟨w.heap.size + 1, 0, none⟩, 1, 1⟩] [[t]] [] (fun k => k ∈ [] ∨ k ∈ [[t]].flatten) ∧ TrD f (cntF f t) t [] [[t]] [] := by
 have hxw := (hx.kf hk).imp (F' := fun b => b < lo ∨ b = w.heap.size + 1) fun b hb => .inl hb
 have b1 := below_alloc w (.map #[] 0)
 have hx1 := rt_below hxw b1
 have hm1 : Met (fun b => b < lo ∨ b = w.heap.size + 1) (w.alloc (.map #[] 0)) w.heap.size [] := mp_new _ w
 have hz1 : (w.alloc (.map #[] 0)).heap.size = w.heap.size + 1 := by simp
 generalize w.alloc (.map #[] 0) = wm at *
 have b2 := below_alloc wm (.cells #[.int .i64 x.k, .string x.nm, .slice x.na x.nn x.nc, .bool x.s, .slice x.a x.l x.c, .slice x.ka x.kn x.kc] 28)
 have hx2 := rt_below hx1 b2
 have hm2 := Met.below hm1 b2
 have hb : (wm.alloc (.cells #[.int .i64 x.k, .string x.nm, .slice x.na x.nn x.nc, .bool x.s, .slice x.a x.l x.c, .slice x.ka x.kn x.kc] 28)).heap[w.heap.size + 1]? = some (.cells x.enc.toArray 28 (0, 0)) := by
  rw [← hz1]
  exact heap_alloc_new wm _
 have hz2 : (wm.alloc (.cells #[.int .i64 x.k, .string x.nm, .slice x.na x.nn x.nc, .bool x.s, .slice x.a x.l x.c, .slice x.ka x.kn x.kc] 28)).heap.size = w.heap.size + 1 + 1 := by simp [hz1]
 have hk2 := rk_one hb (F := fun b => b < lo ∨ b = w.heap.size + 1) (.inr rfl) hx2
 generalize wm.alloc (.cells #[.int .i64 x.k, .string x.nm, .slice x.na x.nn x.nc, .bool x.s, .slice x.a x.l x.c, .slice x.ka x.kn x.kc] 28) = wt at *
 have b3 := below_alloc wt (.cells #[.slice (some ⟨w.heap.size + 1, 0, none⟩) 1 1] 26)
 have hown : (wt.alloc (.cells #[.slice (some ⟨w.heap.size + 1, 0, none⟩) 1 1] 26)).ownsRow (w.heap.size + 1 + 1) 26 1 (.slice (some ⟨w.heap.size + 1 + 1, 0, none⟩) 1 1) 1 [.slice (some ⟨w.heap.size + 1, 0, none⟩) 1 1] := ⟨rfl, .inr ⟨w.heap.size + 1 + 1, 1, _, rfl, Nat.le_refl _, by rw [← hz2]; exact heap_alloc_new wt _, Nat.le_refl _, by decide, rfl, rfl⟩⟩
 refine ⟨{ own := hown, pr := (prs_nil _ _).snoc (KL.kf (s := ⟨some ⟨w.heap.size + 1, 0, none⟩, 1, 1⟩) hk2 (Kf.of_below b3)), met := Met.below hm2 b3, key := fun p hp => (by cases hp), mb := by omega, nF := by omega, hF := fun b hb => (by omega) }, ?_⟩
 exact { cov := fun v hv => (by cases hv), root := .inr (.inl (by simp)), subV := fun u hu => (by cases hu), subL := fun u hu => ⟨0, show u = t by simpa using hu⟩, subR := fun u hu => (by cases hu), dpL := fun u hu => (by simp at hu; rw [hu]; exact hf), dpR := fun u hu => (by cases hu), ne := fun L hL => (by simp at hL; rw [hL]; simp), sum := by simp [cnL] }
set_option maxRecDepth 100000 in
set_option maxHeartbeats 3200000 in
theorem trees1_n {w0 w : World} {lo B l n f : Nat} {x : TC} {t : Tr} (hx : Rt (fun b => b < lo) w0 x t) (hf : ¬ Dp f t) (hN : cntF f t ≤ 1073741824) (J : List Tr → World → Prop) (Jx : World → Prop)
  (hJ0 : ∀ vis W, J vis W → Kf (fun b => b < lo) w0 W) (hSt : ∀ vis W W', J vis W → Below w.heap.size W W' → J vis W') (hB : VB w B x) (hlo : lo ≤ w.heap.size) (hlo0 : lo ≤ w0.heap.size)
  (hY : ∀ vis y u W, J vis W → w.heap.size ≤ W.heap.size → Rt (fun b => b < lo ∨ b = w.heap.size + 1) W y u → (∃ k, At4 k t u) → YieldAt Fence.wide (n - 1) Tryz.prog l #[y.val] W fun e W' =>
   (e = .returned (.bool true) ∧ J (vis ++ [u]) W' ∧ W.heap.size ≤ W'.heap.size ∧ ∀ b, w.heap.size ≤ b → b < W.heap.size → W'.heap[b]? = W.heap[b]?) ∨ (e = .returned (.bool false) ∧ Jx W'))
  (h0 : J [] w) :
  CallsIn Fence.wide n Tryz.prog 79 #[.func (.yield l) #[] #[], .pointer (some ⟨B, 0, none⟩)] w fun e W' => (∃ v, e = .returned v) ∧
   ((∃ vis, J vis W' ∧ (∀ k u, At4 k t u → u ∈ vis) ∧ ∀ u ∈ vis, ∃ k, At4 k t u) ∨ Jx W') := by
 have hmk := mk_map w
 have bm := below_alloc w (.map #[] 0)
 have yB := hB.below bm
 have e0 := yB.c0
 have e1 := yB.c1
 have e2 := yB.c2
 have e3 := yB.c3
 have e4 := yB.c4
 have e5 := yB.c5
 refine callsIn_of_wp Tryz.func79 rfl trivial ?_ rfl
 simp only [Tryz.ntmps79, List.size_toArray, List.length_cons, List.length_nil, Nat.reduceAdd, Nat.reduceSub, Array.replicate_succ, Array.replicate_zero, List.push_toArray, List.append_toArray, List.nil_append, List.cons_append]
 gi_wp2
 clear hmk e0 e1 e2 e3 e4 e5 bm yB
 obtain ⟨M, hM⟩ := least_m (fun k v wr => ∃ vis q LL E, TrM (fun b => b < lo ∨ b = w.heap.size + 1) (w.heap.size + 1 + 1) w.heap.size v wr q LL E (fun k => k ∈ vis ∨ k ∈ LL.flatten) ∧ TrD f (cntF f t) t vis LL [] ∧ J vis wr ∧ w.heap.size + 1 + 1 < wr.heap.size ∧ cnL f LL.flatten = k)
 have hfirst := tr_first (w0 := w0) (w := w) hx (hJ0 _ _ h0) hlo hf
 have hJ3 := hSt _ _ _ h0 (below_alloc' (below_alloc' (below_alloc w (.map #[] 0)) (.cells #[.int .i64 x.k, .string x.nm, .slice x.na x.nn x.nc, .bool x.s, .slice x.a x.l x.c, .slice x.ka x.kn x.kc] 28)) (.cells #[.slice (some ⟨w.heap.size + 1, 0, none⟩) 1 1] 26))
 have hz3 : w.heap.size + 1 + 1 < (((w.alloc (.map #[] 0)).alloc (.cells #[.int .i64 x.k, .string x.nm, .slice x.na x.nn x.nc, .bool x.s, .slice x.a x.l x.c, .slice x.ka x.kn x.kc] 28)).alloc (.cells #[.slice (some ⟨w.heap.size + 1, 0, none⟩) 1 1] 26)).heap.size := by simp
 generalize ((w.alloc (.map #[] 0)).alloc (.cells #[.int .i64 x.k, .string x.nm, .slice x.na x.nn x.nc, .bool x.s, .slice x.a x.l x.c, .slice x.ka x.kn x.kc] 28)).alloc (.cells #[.slice (some ⟨w.heap.size + 1, 0, none⟩) 1 1] 26) = w3 at *
 gi_loopw [4] (fun v wr => ∃ k, ∃ vis q LL E, Hid (TrM (fun b => b < lo ∨ b = w.heap.size + 1) (w.heap.size + 1 + 1) w.heap.size v wr q LL E (fun k => k ∈ vis ∨ k ∈ LL.flatten)) ∧ Hid (TrD f (cntF f t) t vis LL []) ∧ Hid (J vis wr) ∧ w.heap.size + 1 + 1 < wr.heap.size ∧ Hid (cnL f LL.flatten = k)) (fun v wr => M v wr)
 case atStart => exact ⟨_, [], _, _, [], hide hfirst.1, hide hfirst.2, hide hJ3, hz3, hide rfl⟩
 case round =>
  obtain ⟨k0, vis0, q0, LL0, E0, h1, h2, h3, h4, h5⟩ := hrel
  have hm0 := (hM k0 u4 wr ⟨vis0, q0, LL0, E0, h1.out, h2.out, h3.out, h4, h5.out⟩).1
  clear h1 h2 h3 h4 h5
  obtain ⟨vis, q, LL, E, hT, hD, hJ, hz, hK⟩ := hm0
  clear hfirst hJ3 hz3
  obtain ⟨-, a, c, rfl, hrow⟩ := own_sl hT.own
  have hql : q.length = LL.length := hT.pr.1
  generalize hKK : M (.slice a q.length c) wr = KK at *
  replace hM := hide hM
  match hn : q.length with
  | 0 =>
   rw [hn] at hql hrow
   obtain rfl : LL = [] := List.length_eq_zero_iff.1 hql.symm
   have hfin : Hid (∃ vis, J vis wr ∧ (∀ k u, At4 k t u → u ∈ vis) ∧ ∀ u ∈ vis, ∃ k, At4 k t u) := hide ⟨vis, hJ, hD.all, hD.subV⟩
   clear hT hD hJ hql hrow
   gi_wp2
   go_end0
   exact ⟨⟨_, rfl⟩, .inl hfin.out⟩
  | n1 + 1 =>
   obtain ⟨q', s, rfl, hq'⟩ := snoc_of hn
   obtain ⟨LL', L, rfl, hL'⟩ := snoc_of (hql.symm.trans hn)
   obtain ⟨g, rfl, hg, -, hc⟩ := hrow.resolve_left (by omega)
   obtain ⟨ka, kn, kc⟩ := s
   have ct : wr.cell? ⟨g, n1, none⟩ = some (.slice ka kn kc) := by
    have := hc n1 ⟨ka, kn, kc⟩ (by rw [← hq']; simp)
    rwa [Nat.zero_add] at this
   have hcap : n1 + 1 ≤ c := by
    have := hT.own.2
    rw [hn] at this
    rcases this with ⟨e, _⟩ | ⟨g', cap, cur, e, _, _, h, _⟩
    ·cases e
    ·cases e
     exact h
   obtain ⟨hpr, hkl⟩ := prs_pop hT.pr
   have ho1 := hT.own
   rw [hn, List.map_append] at ho1
   have ho2 := own_pop ho1 (by rw [List.length_map, hq', Nat.mul_one])
   have hLn : L.length = kn := hkl.1
   have hD1 := hD.pop
   have hL0 : 0 < kn := by
    rw [← hLn]
    exact List.length_pos_iff.2 (hD.ne L (by simp))
   have hT1 : TrM (fun b => b < lo ∨ b = w.heap.size + 1) (w.heap.size + 1 + 1) w.heap.size (.slice (some ⟨g, 0, none⟩) n1 c) wr q' LL' E (fun k => k ∈ vis ∨ k ∈ LL'.flatten ∨ k ∈ L) := { own := by rw [hq']; exact ho2, pr := hpr, met := hT.met, key := (hT.imp (S' := fun k => k ∈ vis ∨ k ∈ LL'.flatten ∨ k ∈ L) fun k hk => by simpa using hk).key, mb := hT.mb, nF := hT.nF, hF := hT.hF }
   have hK1 : cnL f LL'.flatten + cnL f L = KK := by
    rw [← hK, List.flatten_append, cnL_append]
    simp
   have hsum := hD1.sum
   have hKN := len_le_cnL hD1.dpR
   have hKL := Nat.le_trans (flat_len hD1.ne) (len_le_cnL hD1.dpL)
   have hn3 : n1 ≤ 1073741824 := by omega
   have h1 : IntKind.i64.wrap (((n1 + 1 : Nat) : Int) - 1) = (n1 : Int) := by
    rw [IntKind.wrap_i64]
    omega
   have hgt0 : decide ((0 : Int) < ((n1 + 1 : Nat) : Int)) = true := by
    rw [decide_eq_true_eq]
    omega
   have hi1 : (n1 : Int) < ((n1 + 1 : Nat) : Int) := by omega
   have hi2 : (n1 : Int) ≤ (c : Int) := by omega
   have hkn3 : kn ≤ 1073741824 := by omega
   replace hT1 := hide hT1
   replace hkl := hide hkl
   replace hD1 := hide hD1
   replace hJ := hide hJ
   replace hLn := hide hLn
   rw [hn] at hKK
   replace hKK := hide hKK
   clear hT hD hrow hc hpr ho1 ho2 hn hq' hql hL' hK
   gi_wp2
   clear ct h1 hgt0 hi1 hi2
   gi_loopw [4, 28] (fun vv i wr2 => ∃ (j : Nat) (vis2 : List Tr) (q2 : List SlT) (LL2 : List (List Tr)) (E2 : List (Value × Value)), j ≤ kn ∧ i = .int .i64 j ∧ Hid (TrM (fun b => b < lo ∨ b = w.heap.size + 1) (w.heap.size + 1 + 1) w.heap.size vv wr2 q2 LL2 E2 (fun k => k ∈ vis2 ∨ k ∈ LL2.flatten ∨ k ∈ L.drop j)) ∧ Hid (TrD f (cntF f t) t vis2 LL2 (L.drop j)) ∧ Hid (J vis2 wr2) ∧ w.heap.size + 1 + 1 < wr2.heap.size ∧ Hid (KL (fun b => b < lo ∨ b = w.heap.size + 1) wr2 ⟨ka, kn, kc⟩ L) ∧ Hid (cnL f LL2.flatten + cnL f (L.drop j) + j ≤ KK)) (fun _ i _ => kn - (intOf i).toNat)
   case atStart => exact ⟨0, vis, q', LL', E, Nat.zero_le _, rfl, hT1, hD1, hJ, hz, hkl, hide (by rw [List.drop_zero]; omega)⟩
   case round =>
    clear hT1 hD1 hJ hkl hz hsum hKN hKL
    obtain ⟨j, vis2, q2, LL2, E2, hj, rfl, hT2, hD2, hJ2, hz2, hkl2, hK2⟩ := hrel
    by_cases hjn : j < kn
    ·have hlt2 : decide ((j : Int) < (kn : Int)) = true := by
      rw [decide_eq_true_eq]
      omega
     obtain ⟨b2, off2, rfl, hb2, hub, hc⟩ := hkl2.out.2.resolve_left (show ¬ kn = 0 by omega)
     have hjL : j < L.length := by rw [hLn.out]; exact hjn
     obtain ⟨y, hcy, hy⟩ := hc j hjL
     have hdrop : L.drop j = L[j] :: L.drop (j + 1) := List.drop_eq_getElem_cons hjL
     rw [hdrop] at hT2 hD2 hK2
     generalize L[j] = u at hy hT2 hD2 hK2
     clear hdrop
     have e0 : wr.cell? ⟨b2, off2 + j * 6, none⟩ = some (.int .i64 y.k) := hcy 0 (by decide)
     have e1 : wr.cell? ⟨b2, off2 + j * 6 + 1, none⟩ = some (.string y.nm) := hcy 1 (by decide)
     have e2 : wr.cell? ⟨b2, off2 + j * 6 + 2, none⟩ = some (.slice y.na y.nn y.nc) := hcy 2 (by decide)
     have e3 : wr.cell? ⟨b2, off2 + j * 6 + 3, none⟩ = some (.bool y.s) := hcy 3 (by decide)
     have e4 : wr.cell? ⟨b2, off2 + j * 6 + 4, none⟩ = some (.slice y.a y.l y.c) := hcy 4 (by decide)
     have e5 : wr.cell? ⟨b2, off2 + j * 6 + 5, none⟩ = some (.slice y.ka y.kn y.kc) := hcy 5 (by decide)
     have hi2 : (j : Int) < (kn : Int) := by omega
     have hwj : IntKind.i64.wrap ((j : Int) + 1) = ((j + 1 : Nat) : Int) := by
      rw [IntKind.wrap_i64]
      omega
     have b3 := below_alloc wr (.cells #[.int .i64 y.k, .string y.nm, .slice y.na y.nn y.nc, .bool y.s, .slice y.a y.l y.c, .slice y.ka y.kn y.kc] 28)
     have y3 := vb_new wr y
     have hT3 := hT2.out.below b3
     have hJ3 := hSt _ _ _ hJ2.out (b3.mono (by omega))
     have hy3 := rt_below hy b3
     have hkl3 := KL.kf hkl2.out (Kf.of_below b3)
     have hz3 : w.heap.size + 1 + 1 < (wr.alloc (.cells #[.int .i64 y.k, .string y.nm, .slice y.na y.nn y.nc, .bool y.s, .slice y.a y.l y.c, .slice y.ka y.kn y.kc] 28)).heap.size := Nat.lt_of_lt_of_le hz2 b3.size
     have hbv : wr.heap.size < (wr.alloc (.cells #[.int .i64 y.k, .string y.nm, .slice y.na y.nn y.nc, .bool y.s, .slice y.a y.l y.c, .slice y.ka y.kn y.kc] 28)).heap.size := y3.lt
     have hKf3 := hJ0 _ _ hJ3
     obtain ⟨fn, tmps, assign, body, hyl, hR⟩ := hY vis2 y u _ hJ3 (by omega) hy3 (hD2.out.subR u (by simp))
     have y30 := y3.c0
     have y31 := y3.c1
     have y32 := y3.c2
     have y33 := y3.c3
     have y34 := y3.c4
     have y35 := y3.c5
     replace y3 := hide y3
     replace hT3 := hide hT3
     replace hy3 := hide hy3
     replace hkl3 := hide hkl3
     replace hKf3 := hide hKf3
     clear hT2 hJ2 hkl2 hc hcy hy b3 hub
     gi_wp2
     refine ⟨fun h => absurd h (by decide), hR.mono ?_⟩
     rintro e W3 (⟨rfl, hJ4, hsz4, hk4⟩ | ⟨rfl, hJx⟩)
     ·clear hR hyl e0 e1 e2 e3 e4 e5 y30 y31 y32 y33 y34 y35 hJ3
      have hw2 := hz2
      generalize wr.alloc (.cells #[.int .i64 y.k, .string y.nm, .slice y.na y.nn y.nc, .bool y.s, .slice y.a y.l y.c, .slice y.ka y.kn y.kc] 28) = w1 at *
      generalize wr.heap.size = bv at *
      have hKf4 := hJ0 _ _ hJ4
      have kfF : Kf (fun b => b < lo ∨ b = w.heap.size + 1) w1 W3 := ⟨hsz4, fun b hF hl => by
       rcases hF with h | h
       ·exact (hKf4.block b h (by omega)).trans (hKf3.out.block b h (by omega)).symm
       ·subst h
        exact hk4 _ (by omega) (by omega)⟩
      have hT4 := hT3.out.kept kfF (hk4 _ (Nat.le_refl _) (by omega)) fun b hb hl => hk4 b (by omega) hl
      have y4 : VB W3 bv y := (hk4 bv (by omega) hbv).trans y3.out
      have hy4 := hy3.out.kf kfF
      have hkl4 := KL.kf hkl3.out kfF
      have hz4 : w.heap.size + 1 + 1 < W3.heap.size := Nat.lt_of_lt_of_le hz3 hsz4
      have hbv4 : bv < W3.heap.size := y4.lt
      have c5 := y4.c5
      have hbm : bv ≠ w.heap.size := by omega
      obtain ⟨lu, ku, rfl⟩ := rt_of hy4
      have hky := (rt_nd hy4).2
      have hme := meet_n (kc := y.kc) hT4.met (hky.2.imp id fun ⟨b, off, e, hF, hu, _⟩ => ⟨b, off, e, hF, hu⟩)
      replace hT4 := hide hT4
      replace hkl4 := hide hkl4
      replace hky := hide hky
      replace hJ4 := hide hJ4
      replace y4 := hide y4
      clear hk4 hKf4 kfF hT3 y3 hy3 hkl3 hKf3 hy4 hz3 hsz4 hbv
      gi_wp2
      have hmv : Hid (∀ k, (k ∈ vis2 ∨ k ∈ LL2.flatten ∨ k ∈ nd lu ku :: L.drop (j + 1)) → k ∈ vis2 ++ [nd lu ku] ∨ k ∈ LL2.flatten ∨ k ∈ L.drop (j + 1)) := hide fun k hk => by
       rcases hk with hk | hk | hk
       ·exact .inl (by simp [hk])
       ·exact .inr (.inl hk)
       ·rcases List.mem_cons.1 hk with rfl | hk
        ·exact .inl (by simp)
        ·exact .inr (.inr hk)
      refine ⟨trivial, fun h => absurd h (by decide), (callsIn_wide.2 hme).mono ?_⟩
      rintro e w5 ⟨g5, ⟨hk0, rfl, hM5⟩ | ⟨hk0, E5, hM5, hE5, hin, rfl⟩ | ⟨hk0, hM5, rfl⟩⟩
      ·have kf5 : Kf (fun b => b < lo ∨ b = w.heap.size + 1) W3 w5 := Kf.of_grown g5 (by omega)
       have hT5 := hide ((hT4.out.asked g5 hM5 (hT4.out.keys g5 rfl)).imp (S' := fun k => k ∈ vis2 ++ [nd lu ku] ∨ k ∈ LL2.flatten ∨ k ∈ L.drop (j + 1)) hmv.out)
       have hD5 := hide (hD2.out.see (fun k hk => by rw [ksO_nd, List.length_eq_zero_iff.1 (hky.out.1.trans hk0)] at hk; cases hk))
       have hJ5 := hide (hSt _ _ _ hJ4.out ⟨g5.os, g5.tape, g5.output, g5.size, fun b hb => g5.block b (by omega) fun e => by have := Option.some.inj e; omega⟩)
       have hkl5 := hide (KL.kf hkl4.out kf5)
       have hz5 : w.heap.size + 1 + 1 < w5.heap.size := Nat.lt_of_lt_of_le hz4 g5.size
       have hK5 : Hid (cnL f LL2.flatten + cnL f (L.drop (j + 1)) + (j + 1) ≤ KK) := hide (by have := hK2.out; rw [cnL_cons] at this; have := cnt_self (hD2.out.dpR (nd lu ku) (by simp)); omega)
       clear hme hT4 hJ4 y4 hkl4 hky hD2 hK2 c5 g5 kf5
       gi_wp2
       exact ⟨⟨j + 1, vis2 ++ [nd lu ku], q2, LL2, E2, by omega, rfl, hT5, hD5, hJ5, hz5, hkl5, hK5⟩, by simp [intOf]; omega⟩
      ·have kf5 : Kf (fun b => b < lo ∨ b = w.heap.size + 1) W3 w5 := Kf.of_grown g5 (by omega)
       have hT5 := hide ((hT4.out.asked g5 hM5 (hT4.out.keys g5 hE5)).imp (S' := fun k => k ∈ vis2 ++ [nd lu ku] ∨ k ∈ LL2.flatten ∨ k ∈ L.drop (j + 1)) hmv.out)
       have hD5 := hide (hD2.out.see (fun k hk => hmv.out k (hT4.out.known hky.out hin k (by rwa [ksO_nd] at hk))))
       have hJ5 := hide (hSt _ _ _ hJ4.out ⟨g5.os, g5.tape, g5.output, g5.size, fun b hb => g5.block b (by omega) fun e => by have := Option.some.inj e; omega⟩)
       have hkl5 := hide (KL.kf hkl4.out kf5)
       have hz5 : w.heap.size + 1 + 1 < w5.heap.size := Nat.lt_of_lt_of_le hz4 g5.size
       have hK5 : Hid (cnL f LL2.flatten + cnL f (L.drop (j + 1)) + (j + 1) ≤ KK) := hide (by have := hK2.out; rw [cnL_cons] at this; have := cnt_self (hD2.out.dpR (nd lu ku) (by simp)); omega)
       clear hme hT4 hJ4 y4 hkl4 hky hD2 hK2 c5 g5 kf5
       gi_wp2
       exact ⟨⟨j + 1, vis2 ++ [nd lu ku], q2, LL2, E5, by omega, rfl, hT5, hD5, hJ5, hz5, hkl5, hK5⟩, by simp [intOf]; omega⟩
      ·have kf5 : Kf (fun b => b < lo ∨ b = w.heap.size + 1) W3 w5 := Kf.of_grown g5 (by omega)
       have hne : ku ≠ [] := fun e => by
        have := hky.out.1
        rw [e] at this
        simp at this
        omega
       have hkl6 : KL (fun b => b < lo ∨ b = w.heap.size + 1) w5 ⟨y.ka, y.kn, y.kc⟩ ku := KL.kf (s := ⟨y.ka, y.kn, y.kc⟩) hky.out kf5
       have hmv2 : ∀ k, (k ∈ vis2 ∨ k ∈ LL2.flatten ∨ k ∈ nd lu ku :: L.drop (j + 1)) → k ∈ vis2 ++ [nd lu ku] ∨ k ∈ (LL2 ++ [ku]).flatten ∨ k ∈ L.drop (j + 1) := fun k hk => (hmv.out k hk).imp id fun h => h.imp (fun h => by rw [List.flatten_append]; exact List.mem_append_left _ h) id
       have hT5 := (hT4.out.imp (S' := fun k => k ∈ vis2 ++ [nd lu ku] ∨ k ∈ (LL2 ++ [ku]).flatten ∨ k ∈ L.drop (j + 1)) hmv2).asked g5 hM5 (fun p hp => by
        rcases List.mem_append.1 hp with hp | hp
        ·exact (hT4.out.imp (S' := fun k => k ∈ vis2 ++ [nd lu ku] ∨ k ∈ (LL2 ++ [ku]).flatten ∨ k ∈ L.drop (j + 1)) hmv2).keys g5 rfl p hp
        ·obtain rfl := List.mem_singleton.1 hp
         exact ⟨⟨y.ka, y.kn, y.kc⟩, ku, rfl, hkl6, fun k hk => .inr (.inl (by simp [hk]))⟩)
       have y6 := y4.out.grown g5 hbm
       have c6 := y6.c5
       have b6 := below_alloc w5 (.cells #[.slice y.ka y.kn y.kc] 26)
       have hT6 := hT5.below b6
       have ho6 := hT6.own
       have hc6 : (w5.alloc (.cells #[.slice y.ka y.kn y.kc] 26)).cell? ⟨w5.heap.size, 0, none⟩ = some (SlT.val ⟨y.ka, y.kn, y.kc⟩) := cell_of_row _ w5.heap.size 0 _ _ (0, 0) (heap_alloc_new w5 _)
       have hz5 : w.heap.size + 1 + 1 < w5.heap.size := Nat.lt_of_lt_of_le hz4 g5.size
       have hz6 : w.heap.size + 1 + 1 ≤ (w5.alloc (.cells #[.slice y.ka y.kn y.kc] 26)).heap.size := Nat.le_of_lt (Nat.lt_of_lt_of_le hz5 b6.size)
       have hJ6 := hSt _ _ _ hJ4.out (Below.trans ⟨g5.os, g5.tape, g5.output, g5.size, fun b hb => g5.block b (by omega) fun e => by have := Option.some.inj e; omega⟩ (b6.mono (by omega)))
       have hkl7 := KL.kf hkl4.out (kf5.trans (Kf.of_below b6))
       have hkl8 := KL.kf hkl6 (Kf.of_below b6)
       have hD6 := hide (hD2.out.lay (by rw [ksO_nd]; exact hne))
       have hK6 : Hid (cnL f (LL2 ++ [ku]).flatten + cnL f (L.drop (j + 1)) + (j + 1) ≤ KK) := hide (by
        have h1 := hK2.out
        rw [cnL_cons] at h1
        have h2 := cnt_self (hD2.out.dpR (nd lu ku) (by simp))
        rw [ksO_nd] at h2
        rw [List.flatten_append, cnL_append]
        simp only [List.flatten_cons, List.flatten_nil, List.append_nil]
        omega)
       have hq2 : q2.length ≤ 1073741824 := by
        have h1 := hD2.out.sum
        have h2 := Nat.le_trans (flat_len hD2.out.ne) (len_le_cnL hD2.out.dpL)
        rw [hT4.out.pr.1]
        omega
       replace hT6 := hide hT6
       replace hc6 := hide hc6
       replace ho6 := hide ho6
       replace hJ6 := hide hJ6
       replace hkl7 := hide hkl7
       replace hkl8 := hide hkl8
       clear hme hT4 hJ4 y4 hkl4 hky hD2 hK2 c5 g5 kf5 hM5 hT5 y6 hkl6 b6 hmv hmv2 hne
       gi_wp2_with (first | (refine appSlIn rfl _ _ rfl (w.heap.size + 1 + 1) _ q2.length q2 rfl ho6.out ⟨y.ka, y.kn, y.kc⟩ w5.heap.size rfl hc6.out (by omega) hz6 ?_))
       intro v' w7 ho7 hg7 hb7
       replace ho7 : w7.ownsRow (w.heap.size + 1 + 1) 26 1 v' (q2.length + 1) ((q2 ++ [(⟨y.ka, y.kn, y.kc⟩ : SlT)]).map SlT.val) := by rw [List.map_append]; exact ho7
       have hT7 := hide (hT6.out.put (s := ⟨y.ka, y.kn, y.kc⟩) hkl8.out ho7 hg7)
       have hob : ∀ b, u4.ownBlock = some b → w.heap.size + 1 + 1 ≤ b := fun b e => (ho6.out.lt b e).1
       have hJ7 := hide (hSt _ _ _ hJ6.out ⟨hg7.os, hg7.tape, hg7.output, hg7.size, fun b hb => hg7.block b (by omega) fun e => by have := hob b e.symm; omega⟩)
       have hkl9 := hide (KL.kf hkl7.out ⟨hg7.size, fun b hb hl => hg7.block b hl fun e => by have := hob b e.symm; omega⟩)
       have hz7 : w.heap.size + 1 + 1 < w7.heap.size := Nat.lt_of_lt_of_le (Nat.lt_of_lt_of_le hz5 (by simp)) hg7.size
       obtain ⟨-, av7, cv7, rfl, -⟩ := own_sl ho7
       clear ho7 hg7 hb7 ho6 hc6 hT6 hJ6 hkl7 hkl8 c6 hob
       gi_wp2
       exact ⟨⟨j + 1, vis2 ++ [nd lu ku], _, LL2 ++ [ku], _, by omega, rfl, hT7, hD6, hJ7, hz7, hkl9, hK6⟩, by simp [intOf]; omega⟩
     ·clear hR hyl e0 e1 e2 e3 e4 e5 y30 y31 y32 y33 y34 y35
      gi_wp2
      refine bodyPost_ret (results_none rfl _ _ _) rfl ?_
      exact ⟨⟨_, rfl⟩, .inr hJx⟩
    ·obtain rfl : j = kn := by omega
     have hlt2 : decide ((j : Int) < (j : Int)) = false := by simp
     have hdn : L.drop j = [] := by rw [← hLn.out]; exact List.drop_length
     rw [hdn] at hT2 hD2 hK2
     have hnew := hM.out (cnL f LL2.flatten) u4 wr ⟨vis2, q2, LL2, E2, hT2.out.imp (fun k hk => by simpa using hk), hD2.out, hJ2.out, hz2, rfl⟩
     have hlt3 : Hid (M u4 wr < KK) := hide (by have := hK2.out; rw [cnL_nil] at this; omega)
     have hrel2 : Hid (∃ k, ∃ vis q LL E, Hid (TrM (fun b => b < lo ∨ b = w.heap.size + 1) (w.heap.size + 1 + 1) w.heap.size u4 wr q LL E (fun k => k ∈ vis ∨ k ∈ LL.flatten)) ∧ Hid (TrD f (cntF f t) t vis LL []) ∧ Hid (J vis wr) ∧ w.heap.size + 1 + 1 < wr.heap.size ∧ Hid (cnL f LL.flatten = k)) := hide ⟨_, vis2, q2, LL2, E2, hide (hT2.out.imp (fun k hk => by simpa using hk)), hD2, hJ2, hz2, hide rfl⟩
     clear hT2 hD2 hJ2 hkl2 hK2 hnew
     gi_wp2
     exact ⟨hrel2.out, Nat.lt_of_lt_of_eq hlt3.out hKK.out.symm⟩
end Sx
end Go.Proofs.YtgpaajolcpgeaaaGreatDoor

namespace Go.Proofs.YtgpaajolcpgeaaaGreatDoor
open Go.RowKit Go.Shelf
namespace Sx
attribute [local go_sem] Oper.semAt_some
set_option maxRecDepth 100000 in
theorem trees_n (x : TC) (w : World) : Calls Tryz.prog 44 #[x.val] w fun en w' => en = .returned (.func (.func 79) #[] #[.pointer (some ⟨w.heap.size, 0, none⟩)]) ∧ w' = w.alloc (.cells #[.int .i64 x.k, .string x.nm, .slice x.na x.nn x.nc, .bool x.s, .slice x.a x.l x.c, .slice x.ka x.kn x.kc] 28) := by
 have hmf : ∀ (fn : Fn) (first cap : Array Value) (w : World), (Instr.makeFunc fn first cap).run Tryz.prog w = .ok (.func fn first cap) w := fun _ _ _ _ => rfl
 go_enter Tryz.func44, Tryz.ntmps44
 go_wp2
 exact bodyPost_ret (results_tmp rfl _ _ _) rfl ⟨rfl, rfl⟩
theorem results_ci {P : Program} {fn : Func} {p : Tmp} {ty : TypeId} {q : IntKind} (h : fn.results = #[.cell p ty]) (tmps : Array Value) (w : World) (g : Nat) (v : Value) (t : TypeId) (fr : Nat × Nat) (hp : tmps.getD p undef = .pointer (some ⟨g, 0, none⟩)) (hg : w.heap[g]? = some (.cells #[v] t fr)) (hu : P.underlying ty = some (.int q)) :
  (results fn tmps).run P w = .ok v w := by
 have hp' : tmps[p]?.getD undef = .pointer (some ⟨g, 0, none⟩) := by simpa using hp
 have hc := cell_of_row w g 0 _ _ fr hg
 have hl : (loadVar ty ⟨g, 0, none⟩).run P w = .ok v w := by
  simp [loadVar, isAgg, run_underlying hu, go_sem, hc]
 simp [results, h, hp', asAddr, hl]
/-- is a divisor 0? -/
def zdB (u : Tr) : Bool := decide ((lbO u).k = 15) && decide (cmpI (nmZ (lbO u)) 0 = 0)
/-- WHAT CHECK SAYS OF A TREE -/
def CkD (t : Tr) (e : Int) : Prop :=
 if (shp (lbO t).k).is ≠ 2 then e = 1 else
 ((∃ n u, At4 n t u ∧ stB (lbO u) (ksO u) = false) ∧ e = 1) ∨
 ((∀ n u, At4 n t u → stB (lbO u) (ksO u) = true) ∧ (((∃ n u, At4 n t u ∧ zdB u = true) ∧ e = 11) ∨ ((∀ n u, At4 n t u → zdB u = false) ∧ ((Dp 60 t ∧ e = 43) ∨ (¬ Dp 60 t ∧ e = 0)))))
/-- what Check's loop holds -/
structure CkJ (w : World) (bz : Nat) (x : TC) (r : Loop) (z : Bool) (W : World) : Prop where
 box : VB W w.heap.size x
 res : W.heap[w.heap.size + 1]? = some (.cells #[.int .i64 0] 29 (0, 0))
 zer : W.heap[bz]? = some (.cells #[.bool z] 4 (0, 0))
 dfr : W.heap[bz + 1 + 1]? = some (.deferred (some []))
 lop : W.heap[bz + 1 + 1 + 1]? = some (.loop r)
 bel : Below w.heap.size w W
 bzl : w.heap.size + 1 < bz
/-- .. where it was left -/
structure CkX (w : World) (bz : Nat) (r : Loop) (W : World) : Prop where
 res : W.heap[w.heap.size + 1]? = some (.cells #[.int .i64 1] 29 (0, 0))
 dfr : W.heap[bz + 1 + 1]? = some (.deferred (some []))
 lop : W.heap[bz + 1 + 1 + 1]? = some (.loop { r with state := .done, pending := some .ret })
 bel : Below w.heap.size w W
theorem CkJ.below {w : World} {bz : Nat} {x : TC} {r : Loop} {z : Bool} {W W' : World} (h : CkJ w bz x r z W) {n : Nat} (hn : bz + 1 + 1 + 1 < n) (k : Below n W W') : CkJ w bz x r z W' := by
 have hb := h.bzl
 exact { box := (k.block _ (by omega)).trans h.box, res := (k.block _ (by omega)).trans h.res, zer := (k.block _ (by omega)).trans h.zer, dfr := (k.block _ (by omega)).trans h.dfr, lop := (k.block _ hn).trans h.lop, bel := h.bel.trans (k.mono (by omega)), bzl := hb }
theorem below_put {W : World} {l n : Nat} (o : Obj) (hn : n ≤ l) : Below n W (W.putObj l o) := ⟨rfl, rfl, rfl, by simp [World.putObj], fun b hb => World.putObj_heap_other (by omega)⟩
theorem CkJ.put {w : World} {bz : Nat} {x : TC} {r : Loop} {z : Bool} {W : World} (h : CkJ w bz x r z W) (r' : Loop) : CkJ w bz x r' z (W.putObj (bz + 1 + 1 + 1) (.loop r')) := by
 have hb := h.bzl
 exact { box := (World.putObj_heap_other (by omega)).trans h.box, res := (World.putObj_heap_other (by omega)).trans h.res, zer := (World.putObj_heap_other (by omega)).trans h.zer, dfr := (World.putObj_heap_other (by omega)).trans h.dfr, lop := World.putObj_heap_same ((Array.getElem?_eq_some_iff.1 h.lop).1), bel := h.bel.trans (below_put _ (by omega)), bzl := hb }
theorem CkJ.set {w : World} {bz : Nat} {x : TC} {r : Loop} {z : Bool} {W : World} (h : CkJ w bz x r z W) (z' : Bool) : CkJ w bz x r z' (W.setCell ⟨bz, 0, none⟩ (.bool z')) := by
 have hb := h.bzl
 have o := Only.set bz 0 W (.bool z')
 exact { box := (o.block _ (by omega)).trans h.box, res := (o.block _ (by omega)).trans h.res, zer := heap_setCell_same W bz 0 _ _ _ h.zer, dfr := (o.block _ (by omega)).trans h.dfr, lop := (o.block _ (by omega)).trans h.lop, bel := h.bel.trans (o.below (by omega)), bzl := hb }
theorem cntF_le {n : Nat} {t : Tr} (h : ¬ Dp n t) : ∀ k, cntF k t ≤ cntF n t := by
 have up : ∀ k, cntF (n + k) t = cntF n t := by
  intro k
  induction k with
  | zero => rfl
  | succ k ih =>
   have hk : ∀ k, ¬ Dp (n + k) t := fun k => by
    induction k with
    | zero => exact h
    | succ k ih => exact fun h2 => ih (dp_down h2)
   rw [← Nat.add_assoc, ← cntF_full _ (hk k), ih]
 have mono : ∀ k j, cntF k t ≤ cntF (k + j) t := fun k j => by
  induction j with
  | zero => exact Nat.le_refl _
  | succ j ih => exact Nat.le_trans ih (cntF_mono _ t)
 intro k
 rcases Nat.le_total k n with hk | hk
 ·have := mono k (n - k)
  rwa [Nat.add_sub_cancel' hk] at this
 ·have := up (k - n)
  rw [Nat.add_sub_cancel' hk] at this
  omega
theorem few_of {f B : Nat} {t : Tr} (h : ¬ Dp f t) (hN : cntF f t ≤ B) : Few4 B t := fun k => Nat.le_trans (cntF_le h k) hN
theorem sub_cnt {f : Nat} : ∀ {k : Nat} {t u : Tr}, At4 k t u → ¬ Dp f t → cntF f u ≤ cntF f t ∧ ¬ Dp f u := by
 intro k
 induction k with
 | zero =>
  intro t u h hf
  cases h
  exact ⟨Nat.le_refl _, hf⟩
 | succ k ih =>
  rintro t u ⟨v, hv, h⟩ hf
  obtain ⟨h1, h2⟩ := ih h (dp_kid hf hv)
  refine ⟨Nat.le_trans h1 ?_, h2⟩
  rw [cnt_self hf]
  have : ∀ (l : List Tr), v ∈ l → cntF f v ≤ cnL f l := by
   intro l
   induction l with
   | nil => exact fun h => by cases h
   | cons a l ih =>
    intro h
    rw [cnL_cons]
    rcases List.mem_cons.1 h with rfl | h
    ·exact Nat.le_add_right _ _
    ·exact Nat.le_trans (ih h) (Nat.le_add_left _ _)
  have := this _ hv
  omega
/-- what Check answers -/
def CkR (w : World) (t : Tr) (en : Ending) (w' : World) : Prop := Below w.heap.size w w' ∧ ∃ e : Int, CkD t e ∧ en = .returned (.int .i64 e)
set_option maxRecDepth 100000 in
set_option maxHeartbeats 3200000 in
theorem check_n {w : World} {x : TC} {t : Tr} {f : Nat} (hx : Rt An w x t) (hf : ¬ Dp f t) (hN : cntF f t ≤ 1073741824) (hB : Al Bd4 t) : Calls Tryz.prog 19 #[x.val] w fun en w' => CkR w t en w' := by
 obtain ⟨lb, ks, rfl⟩ := rt_of hx
 have hkk : lb.k = x.k := (rt_nd hx).1.k
 have hxl : Rt (fun b => b < w.heap.size) w x (nd lb ks) := (rt_in hx).imp fun b hb => hb.2
 have b1 := below_alloc w (.cells #[.int .i64 x.k, .string x.nm, .slice x.na x.nn x.nc, .bool x.s, .slice x.a x.l x.c, .slice x.ka x.kn x.kc] 28)
 have b2 := below_alloc' b1 (.cells #[.int .i64 0] 29)
 have y2 := (vb_new w x).below (below_alloc _ (.cells #[.int .i64 0] 29))
 have r2 : ((w.alloc (.cells #[.int .i64 x.k, .string x.nm, .slice x.na x.nn x.nc, .bool x.s, .slice x.a x.l x.c, .slice x.ka x.kn x.kc] 28)).alloc (.cells #[.int .i64 0] 29)).heap[w.heap.size + 1]? = some (.cells #[.int .i64 0] 29 (0, 0)) := by
  have := heap_alloc_new (w.alloc (.cells #[.int .i64 x.k, .string x.nm, .slice x.na x.nn x.nc, .bool x.s, .slice x.a x.l x.c, .slice x.ka x.kn x.kc] 28)) (.cells #[.int .i64 0] 29)
  simpa using this
 have c0 := y2.c0
 have hfd := fd_is (shp x.k)
 refine (callsIn_wide (n := 3)).1 ?_
 refine callsIn_of_wp_marks Tryz.func19 rfl trivial ?_ rfl
 simp only [Tryz.ntmps19, List.size_toArray, List.length_cons, List.length_nil, Nat.reduceAdd, Nat.reduceSub, Array.replicate_succ, Array.replicate_zero, List.push_toArray, List.append_toArray, List.nil_append, List.cons_append]
 gi_wp2
 refine ⟨trivial, (callsIn_wide.2 (shapeOf_n x.k _)).mono ?_⟩
 clear c0 b1
 generalize (w.alloc (.cells #[.int .i64 x.k, .string x.nm, .slice x.na x.nn x.nc, .bool x.s, .slice x.a x.l x.c, .slice x.ka x.kn x.kc] 28)).alloc (.cells #[.int .i64 0] 29) = wb at *
 rintro en w1 ⟨rfl, k1⟩
 have y3 := y2.below k1
 have r3 := (k1.block _ (lt_of_block r2)).trans r2
 have b3 := grow_step k1 b2
 have hr1 := lt_of_block r3
 clear y2 r2 b2 k1
 by_cases hs : (shp x.k).is = 2
 ·have hs2 : ((shp x.k).is != 2) = false := by simpa using hs
  have b4 := below_alloc w1 (.cells #[.bool false] 4)
  have y4 := y3.below b4
  have r4 := (b4.block _ hr1).trans r3
  have z4 := heap_alloc_new w1 (.cells #[.bool false] 4)
  have e0 := y4.c0
  have e1 := y4.c1
  have e2 := y4.c2
  have e3 := y4.c3
  have e4 := y4.c4
  have e5 := y4.c5
  have b5 := grow_step b4 b3
  gi_wp2
  clear e0 e1 e2 e3 e4 e5
  have hbz : w1.heap.size + 1 = (w1.alloc (.cells #[.bool false] 4)).heap.size := by simp
  refine ⟨trivial, (callsIn_wide.2 (trees_n x _)).mono ?_⟩
  generalize w1.alloc (.cells #[.bool false] 4) = w2 at *
  rintro en w5 ⟨rfl, rfl⟩
  rw [← hbz]
  have b6 := below_alloc w2 (.cells #[.int .i64 x.k, .string x.nm, .slice x.na x.nn x.nc, .bool x.s, .slice x.a x.l x.c, .slice x.ka x.kn x.kc] 28)
  have y6 := y4.below b6
  have r6 := (b6.block _ (lt_of_block r4)).trans r4
  have z6 := (b6.block _ (lt_of_block z4)).trans z4
  have t6 := vb_new w2 x
  rw [← hbz] at t6
  have b7 := grow_step b6 b5
  have hz7 : (w2.alloc (.cells #[.int .i64 x.k, .string x.nm, .slice x.na x.nn x.nc, .bool x.s, .slice x.a x.l x.c, .slice x.ka x.kn x.kc] 28)).heap.size = w1.heap.size + 1 + 1 := by simp [← hbz]
  generalize w2.alloc (.cells #[.int .i64 x.k, .string x.nm, .slice x.na x.nn x.nc, .bool x.s, .slice x.a x.l x.c, .slice x.ka x.kn x.kc] 28) = w3 at *
  clear y3 y4 r3 r4 z4 b3 b4 b5 b6 hbz
  generalize w1.heap.size = bz at *
  gi_wp2
  refine range_enter rfl (enters_of Tryz.func79 (by kernel_rfl) rfl) (fun fn r hr => ?_)
  have b8 := below_alloc' (below_alloc w3 (.deferred (some []))) (.loop r)
  have y8 := y6.below b8
  have r8 := (b8.block _ (lt_of_block r6)).trans r6
  have z8 := (b8.block _ (lt_of_block z6)).trans z6
  have t8 := t6.below b8
  have d8 : ((w3.alloc (.deferred (some []))).alloc (.loop r)).heap[bz + 1 + 1]? = some (.deferred (some [])) := by
   have h1 := heap_alloc_new w3 (.deferred (some []))
   rw [hz7] at h1
   exact ((below_alloc _ (.loop r)).block _ (by simp [hz7])).trans h1
  have l8 : ((w3.alloc (.deferred (some []))).alloc (.loop r)).heap[bz + 1 + 1 + 1]? = some (.loop r) := by
   have h1 := heap_alloc_new (w3.alloc (.deferred (some []))) (.loop r)
   rw [show (w3.alloc (.deferred (some []))).heap.size = bz + 1 + 1 + 1 by simp [hz7]] at h1
   exact h1
  have b9 := grow_step b8 b7
  have hz8 : ((w3.alloc (.deferred (some []))).alloc (.loop r)).heap.size = bz + 1 + 1 + 1 + 1 := by simp [hz7]
  have hbzl : w.heap.size + 1 < bz := hr1
  rw [hz7]
  generalize (w3.alloc (.deferred (some []))).alloc (.loop r) = W0 at *
  clear b8 y6 r6 z6 t6 b7
  refine (trees1_n (w0 := w) (w := W0) (lo := w.heap.size) (B := bz + 1) (l := bz + 1 + 1 + 1) (n := 3 - 1) hxl hf hN (fun vis W => CkJ w bz x r (vis.any zdB) W ∧ ∀ u ∈ vis, stB (lbO u) (ksO u) = true) (fun W => CkX w bz r W ∧ ∃ n u, At4 n (nd lb ks) u ∧ stB (lbO u) (ksO u) = false)
   (fun vis W h => Kf.of_below h.1.bel) (fun vis W W' h k => ⟨h.1.below (by omega) k, h.2⟩) t8 (by omega) (Nat.le_refl _) ?_ ⟨⟨y8, r8, z8, d8, l8, b9, hbzl⟩, by simp⟩).mono ?_
  ·rintro vis y u W ⟨hJ, hall⟩ hzW hy hsub
   clear y8 r8 z8 t8 d8 l8 b9
   suffices key : ∀ R : Ending → World → Prop, Hid (∀ W', (CkJ w bz x r ((vis ++ [u]).any zdB) W' ∧ ∀ v ∈ vis ++ [u], stB (lbO v) (ksO v) = true) ∧ W.heap.size ≤ W'.heap.size ∧ (∀ b, W0.heap.size ≤ b → b < W.heap.size → W'.heap[b]? = W.heap[b]?) → R (.returned (.bool true)) W') → Hid (∀ W', (CkX w bz r W' ∧ ∃ n u, At4 n (nd lb ks) u ∧ stB (lbO u) (ksO u) = false) → R (.returned (.bool false)) W') → YieldAt Fence.wide (3 - 1 - 1) Tryz.prog (bz + 1 + 1 + 1) #[y.val] W R from key _ (hide fun W' h => .inl ⟨rfl, h⟩) (hide fun W' h => .inr ⟨rfl, h⟩)
   intro R hR1 hR2
   have hl := hJ.lop
   refine round_at hr hl rfl ?_
   clear hs hs2 hfd
   gi_wp2
   have ba := below_alloc W (.cells #[.int .i64 y.k, .string y.nm, .slice y.na y.nn y.nc, .bool y.s, .slice y.a y.l y.c, .slice y.ka y.kn y.kc] 28)
   have hWl := (Array.getElem?_eq_some_iff.1 hl).1
   have hJa := hJ.below hWl ba
   have yu := vb_new W y
   have hya := rt_below hy ba
   have hsz1 := ba.size
   obtain ⟨ku0, hku0⟩ := hsub
   obtain ⟨lu, ku, rfl⟩ := rt_of hy
   obtain ⟨hcn, hdu⟩ := sub_cnt hku0 hf
   have hbd := hB ku0 _ hku0
   rw [lbO_nd] at hbd
   have hkul : ku.length ≤ 1073741824 := by
    have h1 := cnt_self hdu
    rw [ksO_nd] at h1
    have h2 := len_le_cnL (n := f) (l := ku) fun v hv => dp_kid hdu (by rw [ksO_nd]; exact hv)
    omega
   refine ⟨hJa.lop, ?_⟩
   have hJc := hJa.put { r with state := .busy }
   have hbv : W.heap.size ≠ bz + 1 + 1 + 1 := by omega
   have yc : VB _ W.heap.size y := (World.putObj_heap_other (r := bz + 1 + 1 + 1) (o := .loop { r with state := .busy }) hbv).trans yu
   have hyc := hya.kf (w' := (W.alloc (.cells #[.int .i64 y.k, .string y.nm, .slice y.na y.nn y.nc, .bool y.s, .slice y.a y.l y.c, .slice y.ka y.kn y.kc] 28)).putObj (bz + 1 + 1 + 1) (.loop { r with state := .busy })) ⟨by simp [World.putObj], fun b hF _ => World.putObj_heap_other (by omega)⟩
   have hkeep : ∀ b, b < W.heap.size → b ≠ bz + 1 + 1 + 1 → ((W.alloc (.cells #[.int .i64 y.k, .string y.nm, .slice y.na y.nn y.nc, .bool y.s, .slice y.a y.l y.c, .slice y.ka y.kn y.kc] 28)).putObj (bz + 1 + 1 + 1) (.loop { r with state := .busy })).heap[b]? = W.heap[b]? := fun b hb hne => (World.putObj_heap_other hne).trans (ba.block b hb)
   have hszc : W.heap.size < ((W.alloc (.cells #[.int .i64 y.k, .string y.nm, .slice y.na y.nn y.nc, .bool y.s, .slice y.a y.l y.c, .slice y.ka y.kn y.kc] 28)).putObj (bz + 1 + 1 + 1) (.loop { r with state := .busy })).heap.size := yc.lt
   generalize (W.alloc (.cells #[.int .i64 y.k, .string y.nm, .slice y.na y.nn y.nc, .bool y.s, .slice y.a y.l y.c, .slice y.ka y.kn y.kc] 28)).putObj (bz + 1 + 1 + 1) (.loop { r with state := .busy }) = Wc at *
   clear hJa yu hya ba hsz1 hy hJ
   have e0 := yc.c0
   have e1 := yc.c1
   have e2 := yc.c2
   have e3 := yc.c3
   have e4 := yc.c4
   have e5 := yc.c5
   gi_wp2
   refine ⟨trivial, CallsIn.inRound _ ((callsIn_wide.2 (stands_n (hyc.imp fun _ _ => trivial) hbd hkul)).mono ?_)⟩
   rintro e w4 ⟨rfl, k4⟩
   have hJ4 := hJc.below (Nat.lt_of_lt_of_le hWl (Nat.le_of_lt hszc)) k4
   have y4 := yc.below k4
   have hy4 := rt_below hyc k4
   have hs4 : W.heap.size < w4.heap.size := y4.lt
   have hk4 : ∀ b, b < W.heap.size → b ≠ bz + 1 + 1 + 1 → w4.heap[b]? = W.heap[b]? := fun b hb hne => (k4.block b (by omega)).trans (hkeep b hb hne)
   have hb4 := hJ4.bzl
   clear hJc yc hyc k4 hkeep hszc e0 e1 e2 e3 e4 e5
   cases hst : stB lu ku with
   | false =>
    have r4 := hJ4.res
    have e0 := cell_of_row _ (w.heap.size + 1) 0 _ _ (0, 0) r4
    have f0 := frozen_of_row _ (w.heap.size + 1) 0 _ _ r4
    have o5 := Only.set (w.heap.size + 1) 0 w4 (.int .i64 1)
    have hX : Hid (CkX w bz r ((w4.setCell ⟨w.heap.size + 1, 0, none⟩ (.int .i64 1)).putObj (bz + 1 + 1 + 1) (.loop { r with state := .done, pending := some .ret }))) := hide
     {
      res := (World.putObj_heap_other (by omega)).trans (heap_setCell_same _ _ 0 _ _ _ r4)
      dfr := (World.putObj_heap_other (by omega)).trans ((o5.block _ (by omega)).trans hJ4.dfr)
      lop := World.putObj_heap_same (by rw [o5.size]; exact (Array.getElem?_eq_some_iff.1 hJ4.lop).1)
      bel := (hJ4.bel.trans (o5.below (by omega))).trans (below_put _ (by omega)) }
    have hl5 : Hid ((w4.setCell ⟨w.heap.size + 1, 0, none⟩ (.int .i64 1)).heap[bz + 1 + 1 + 1]? = some (.loop { r with state := .busy })) := hide ((o5.block _ (by omega)).trans hJ4.lop)
    clear hy4 y4 hk4 hJ4 o5
    gi_wp2
    exact ⟨hl5.out, hR2.out _ ⟨hX.out, ku0, _, hku0, hst⟩⟩
   | true =>
    have hend : Hid (∀ (Wf : World) (z' : Bool), CkJ w bz x { r with state := .busy } z' Wf ∧ (vis ++ [nd lu ku]).any zdB = z' ∧ W.heap.size ≤ Wf.heap.size ∧ (∀ b, W0.heap.size ≤ b → b < W.heap.size → Wf.heap[b]? = W.heap[b]?) → Wf.heap[bz + 1 + 1 + 1]? = some (.loop { r with state := .busy }) ∧ (CkJ w bz x r ((vis ++ [nd lu ku]).any zdB) (Wf.putObj (bz + 1 + 1 + 1) (.loop { r with state := .ready, pending := none })) ∧ ∀ v ∈ vis ++ [nd lu ku], stB (lbO v) (ksO v) = true) ∧ W.heap.size ≤ (Wf.putObj (bz + 1 + 1 + 1) (.loop { r with state := .ready, pending := none })).heap.size ∧ ∀ b, W0.heap.size ≤ b → b < W.heap.size → (Wf.putObj (bz + 1 + 1 + 1) (.loop { r with state := .ready, pending := none })).heap[b]? = W.heap[b]?) := hide fun Wf z' ⟨h1, h2, h3, h4⟩ => by
     refine ⟨h1.lop, ⟨by rw [h2, lrec_again hr]; exact h1.put r, fun v hv => ?_⟩, by simpa [World.putObj] using h3, fun b hb1 hb2 => ?_⟩
     ·rcases List.mem_append.1 hv with hv | hv
      ·exact hall v hv
      ·obtain rfl := List.mem_singleton.1 hv
       exact hst
     ·rw [World.putObj_heap_other (by omega)]
      exact h4 b hb1 hb2
    have hk5 : Hid (∀ b, W0.heap.size ≤ b → b < W.heap.size → w4.heap[b]? = W.heap[b]?) := hide fun b h1 h2 => hk4 b h2 (by omega)
    have c0 := y4.c0
    have c3 := y4.c3
    have c4 := y4.c4
    have z4 := hJ4.zer
    have e0 := cell_of_row _ bz 0 _ _ (0, 0) z4
    have f0 := frozen_of_row _ bz 0 _ _ z4
    have hlk : lu.k = y.k := (rt_nd hy4).1.k
    have hls : lu.s = y.s := (rt_nd hy4).1.s
    have hrd := (rt_nd hy4).1.rd
    have hany : (vis ++ [nd lu ku]).any zdB = (vis.any zdB || zdB (nd lu ku)) := by rw [List.any_append]; simp
    replace hJ4 := hide hJ4
    cases hz : vis.any zdB with
    | true =>
     rw [hz] at e0
     have hfin := hide (⟨hJ4.out.set true, by rw [hany, hz]; rfl, by rw [(Only.set bz 0 w4 _).size]; omega, fun b h1 h2 => ((Only.set bz 0 w4 _).block b (by omega)).trans (hk5.out b h1 h2)⟩ : CkJ w bz x { r with state := .busy } true (w4.setCell ⟨bz, 0, none⟩ (.bool true)) ∧ (vis ++ [nd lu ku]).any zdB = true ∧ W.heap.size ≤ (w4.setCell ⟨bz, 0, none⟩ (.bool true)).heap.size ∧ (∀ b, W0.heap.size ≤ b → b < W.heap.size → (w4.setCell ⟨bz, 0, none⟩ (.bool true)).heap[b]? = W.heap[b]?))
     clear hk4 hJ4 z4 hrd hany y4 hy4
     gi_wp2
     ·rename_i hu _
      exact absurd (Option.some.inj hu) (by intro h; cases h)
     ·rename_i hu _
      exact absurd (Option.some.inj hu) (by intro h; cases h)
     ·refine ⟨trivial, ?_⟩
      gi_wp2
      obtain ⟨g1, g2⟩ := hend.out _ _ hfin.out
      exact ⟨g1, hR1.out _ g2⟩
    | false =>
     rw [hz] at e0
     by_cases hk : y.k = 15
     ·have hk2 : (y.k == 15) = true := by simpa using hk
      have hsg := zsign_n (zm_rd (sn := y.s) hrd) (by have := hbd.xs; have := hrd.1; omega)
      have hzd : zdB (nd lu ku) = decide (cmpI (sg y.s (val lu.xs)) 0 = 0) := by simp [zdB, lbO_nd, hlk, hk, nmZ, hls]
      gi_wp2
      refine ⟨trivial, CallsIn.inRound _ ((callsIn_wide.2 hsg).mono ?_)⟩
      rintro e w5 ⟨rfl, k5⟩
      have hJ5 := hJ4.out.below (n := w4.heap.size) (by omega) k5
      have z5 := hJ5.zer
      rw [hz] at z5 hJ5
      have e1 := cell_of_row _ bz 0 _ _ (0, 0) z5
      have f1 := frozen_of_row _ bz 0 _ _ z5
      generalize cmpI (sg y.s (val lu.xs)) 0 = d at *
      have hfin := hide (⟨hJ5.set (d == 0), by rw [hany, hz, hzd]; cases hd : (d == 0) <;> simp_all, by rw [(Only.set bz 0 w5 _).size]; exact Nat.le_trans (Nat.le_of_lt hs4) k5.size, fun b h1 h2 => ((Only.set bz 0 w5 _).block b (by omega)).trans ((k5.block b (by omega)).trans (hk5.out b h1 h2))⟩ : CkJ w bz x { r with state := .busy } (d == 0) (w5.setCell ⟨bz, 0, none⟩ (.bool (d == 0))) ∧ (vis ++ [nd lu ku]).any zdB = (d == 0) ∧ W.heap.size ≤ (w5.setCell ⟨bz, 0, none⟩ (.bool (d == 0))).heap.size ∧ (∀ b, W0.heap.size ≤ b → b < W.heap.size → (w5.setCell ⟨bz, 0, none⟩ (.bool (d == 0))).heap[b]? = W.heap[b]?))
      clear hk4 hJ4 z4 hrd hany y4 hy4 hzd hsg c0 c3 c4 e0 f0 hJ5 k5 z5
      gi_wp2
      obtain ⟨g1, g2⟩ := hend.out _ _ hfin.out
      exact ⟨g1, hR1.out _ g2⟩
     ·have hk2 : (y.k == 15) = false := by simpa using hk
      have hzd : zdB (nd lu ku) = false := by simp [zdB, lbO_nd, hlk, hk]
      have hfin := hide (⟨hJ4.out.set false, by rw [hany, hz, hzd]; rfl, by rw [(Only.set bz 0 w4 _).size]; omega, fun b h1 h2 => ((Only.set bz 0 w4 _).block b (by omega)).trans (hk5.out b h1 h2)⟩ : CkJ w bz x { r with state := .busy } false (w4.setCell ⟨bz, 0, none⟩ (.bool false)) ∧ (vis ++ [nd lu ku]).any zdB = false ∧ W.heap.size ≤ (w4.setCell ⟨bz, 0, none⟩ (.bool false)).heap.size ∧ (∀ b, W0.heap.size ≤ b → b < W.heap.size → (w4.setCell ⟨bz, 0, none⟩ (.bool false)).heap[b]? = W.heap[b]?))
      clear hk4 hJ4 z4 hrd hany y4 hy4 hzd
      gi_wp2
      refine ⟨trivial, ?_⟩
      gi_wp2
      obtain ⟨g1, g2⟩ := hend.out _ _ hfin.out
      exact ⟨g1, hR1.out _ g2⟩
  ·rintro e W' ⟨hret, ⟨vis, ⟨hJ, hall⟩, hcov, hsub⟩ | ⟨hX, n, u, hu, hst⟩⟩
   ·refine ⟨hret, .inl ⟨hJ.lop, ?_⟩⟩
    have hst : ∀ n u, At4 n (nd lb ks) u → stB (lbO u) (ksO u) = true := fun n u h => hall u (hcov n u h)
    have hJ2 := hJ.put { r with state := .exhausted }
    have hzz : (vis.any zdB = true → ∃ n u, At4 n (nd lb ks) u ∧ zdB u = true) ∧ (vis.any zdB = false → ∀ n u, At4 n (nd lb ks) u → zdB u = false) := by
     refine ⟨fun h => ?_, fun h n u hu => ?_⟩
     ·obtain ⟨u, hu, hz⟩ := List.any_eq_true.1 h
      obtain ⟨n, hn⟩ := hsub u hu
      exact ⟨n, u, hn, hz⟩
     ·have := List.any_eq_false.1 h u (hcov n u hu)
      simpa using this
    clear y8 r8 z8 t8 d8 l8 b9 hJ
    generalize W'.putObj (bz + 1 + 1 + 1) (.loop { r with state := .exhausted }) = Wf at *
    have hxf := hxl.kf (Kf.of_below hJ2.bel)
    cases hz : vis.any zdB with
    | true =>
     rw [hz] at hJ2
     have hJ5 := hide hJ2
     have e0 := cell_of_row _ bz 0 _ _ (0, 0) hJ2.zer
     have e1 := cell_of_row _ (w.heap.size + 1) 0 _ _ (0, 0) hJ2.res
     have f1 := frozen_of_row _ (w.heap.size + 1) 0 _ _ hJ2.res
     have o5 := Only.set (w.heap.size + 1) 0 Wf (.int .i64 11)
     replace hst := hide hst
     replace hzz := hide hzz
     clear hJ2 hall hcov hsub
     gi_wp2
     have hdf := (o5.block (bz + 1 + 1) (by omega)).trans hJ5.out.dfr
     refine ⟨by simp, .inl ⟨_, _, rfl, run_takeDeferred hdf, ?_⟩⟩
     refine ⟨_, results_ci rfl _ _ (w.heap.size + 1) (.int .i64 11) 29 (0, 0) rfl ((World.putObj_heap_other (by omega)).trans (heap_setCell_same _ _ 0 _ _ _ hJ5.out.res)) Tryz.underlying29, (hJ5.out.bel.trans (o5.below (by omega))).trans (below_put _ (by omega)), 11, ?_, rfl⟩
     unfold CkD
     rw [if_neg (by rw [lbO_nd, hkk]; simp [hs])]
     exact .inr ⟨hst.out, .inl ⟨hzz.out.1 hz, rfl⟩⟩
    | false =>
     rw [hz] at hJ2
     have e0 := cell_of_row _ bz 0 _ _ (0, 0) hJ2.zer
     have c0 := hJ2.box.c0
     have c1 := hJ2.box.c1
     have c2 := hJ2.box.c2
     have c3 := hJ2.box.c3
     have c4 := hJ2.box.c4
     have c5 := hJ2.box.c5
     have hdp := isDeep_n (hxf.imp fun _ _ => trivial) (few_of hf hN)
     replace hst := hide hst
     replace hzz := hide hzz
     replace hJ2 := hide hJ2
     clear hall hcov hsub
     gi_wp2
     refine ⟨trivial, (callsIn_wide.2 hdp).mono ?_⟩
     rintro e w5 ⟨k5, b, rfl, hb⟩
     have hJ5 := hide (hJ2.out.below (n := Wf.heap.size) (Array.getElem?_eq_some_iff.1 hJ2.out.lop).1 k5)
     have e1 := cell_of_row _ (w.heap.size + 1) 0 _ _ (0, 0) hJ5.out.res
     have f1 := frozen_of_row _ (w.heap.size + 1) 0 _ _ hJ5.out.res
     replace hb := hide hb
     clear hdp c0 c1 c2 c3 c4 c5 e0 hJ2 k5
     cases b with
     | true =>
      have o5 := Only.set (w.heap.size + 1) 0 w5 (.int .i64 43)
      gi_wp2
      have hdf := (o5.block (bz + 1 + 1) (by omega)).trans hJ5.out.dfr
      refine ⟨by simp, .inl ⟨_, _, rfl, run_takeDeferred hdf, ?_⟩⟩
      refine ⟨_, results_ci rfl _ _ (w.heap.size + 1) (.int .i64 43) 29 (0, 0) rfl ((World.putObj_heap_other (by omega)).trans (heap_setCell_same _ _ 0 _ _ _ hJ5.out.res)) Tryz.underlying29, (hJ5.out.bel.trans (o5.below (by omega))).trans (below_put _ (by omega)), 43, ?_, rfl⟩
      unfold CkD
      rw [if_neg (by rw [lbO_nd, hkk]; simp [hs])]
      exact .inr ⟨hst.out, .inr ⟨hzz.out.2 hz, .inl ⟨by simpa using hb.out, rfl⟩⟩⟩
     | false =>
      have o5 := Only.set (w.heap.size + 1) 0 w5 (.int .i64 0)
      gi_wp2
      have hdf := (o5.block (bz + 1 + 1) (by omega)).trans hJ5.out.dfr
      refine ⟨by simp, .inl ⟨_, _, rfl, run_takeDeferred hdf, ?_⟩⟩
      refine ⟨_, results_ci rfl _ _ (w.heap.size + 1) (.int .i64 0) 29 (0, 0) rfl ((World.putObj_heap_other (by omega)).trans (heap_setCell_same _ _ 0 _ _ _ hJ5.out.res)) Tryz.underlying29, (hJ5.out.bel.trans (o5.below (by omega))).trans (below_put _ (by omega)), 0, ?_, rfl⟩
      unfold CkD
      rw [if_neg (by rw [lbO_nd, hkk]; simp [hs])]
      exact .inr ⟨hst.out, .inr ⟨hzz.out.2 hz, .inr ⟨fun h => (by cases hb.out.2 h), rfl⟩⟩⟩
   ·refine ⟨hret, .inr ⟨.ret, hX.lop, ?_⟩⟩
    clear y8 r8 z8 t8 d8 l8 b9
    gi_wp2
    have hdf := (World.putObj_heap_other (r := bz + 1 + 1 + 1) (o := .loop { r with state := .exhausted, pending := some .ret }) (by omega)).trans hX.dfr
    refine ⟨by simp, .inl ⟨_, _, rfl, run_takeDeferred hdf, ?_⟩⟩
    refine ⟨_, results_ci rfl _ _ (w.heap.size + 1) (.int .i64 1) 29 (0, 0) rfl ((World.putObj_heap_other (by omega)).trans ((World.putObj_heap_other (by omega)).trans hX.res)) Tryz.underlying29, (hX.bel.trans (below_put _ (by omega))).trans (below_put _ (by omega)), 1, ?_, rfl⟩
    unfold CkD
    rw [if_neg (by rw [lbO_nd, hkk]; simp [hs])]
    exact .inl ⟨⟨n, u, hu, hst⟩, rfl⟩
 ·have hs2 : ((shp x.k).is != 2) = true := by simpa using hs
  have e0 := cell_of_row _ (w.heap.size + 1) 0 _ _ (0, 0) r3
  have f0 := frozen_of_row _ (w.heap.size + 1) 0 _ _ r3
  gi_wp2
  refine ⟨_, results_ci rfl _ _ (w.heap.size + 1) (.int .i64 1) 29 (0, 0) rfl (heap_setCell_same _ _ 0 _ _ _ r3) Tryz.underlying29, b3.trans ((Only.set (w.heap.size + 1) 0 w1 _).below (by omega)), 1, ?_, rfl⟩
  unfold CkD
  rw [if_pos (by rw [lbO_nd, hkk]; exact hs)]
end Sx
end Go.Proofs.YtgpaajolcpgeaaaGreatDoor
