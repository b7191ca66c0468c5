/-
 Several texts in one: IB, IC.
-/
import Derived.Test.YtgpaajolcpgeaaaGreatDoorSrd23
import Derived.Test.YtgpaajolcpgeaaaGreatDoorSrd03
namespace Go.Proofs.YtgpaajolcpgeaaaGreatDoor
open Go.RowKit Go.Maps Go.Sort Go.Shelf
namespace Sx

theorem sorts_k (m : Nat) : AnyZ.SortsIn Tryz.prog Tryz.sortedK_ren Fence.wide m :=
  ⟨fun blk off cap ss W hH hblk hsz => callsIn_wide.2 (AnyM.slices_Sort_string Tryz.sortK blk off cap ss W hH hblk hsz),
   fun p cap W => callsIn_wide.2 (AnyM.slices_Sort_string_none Tryz.sortK p cap W)⟩
/-- the keys of a map, as a function that goes over them -/
theorem keys_n (mb : Option Nat) (W : World) : Calls Tryz.prog 59 #[.map mb] W fun e w' => e = .returned (.func (.func 101) #[] #[.pointer (some ⟨W.heap.size, 0, none⟩)]) ∧ w' = W.alloc (.cells #[.map mb] 104) :=
  callsIn_wide.1 (AnyZ.keys_in Tryz.keysK Fence.wide 5 trivial rfl mb W)
set_option maxHeartbeats 1000000 in
/-- sorted -/
theorem sorted_n (b nn : Nat) (D0 : DataW Unit) (R : Value → Option (DataW Unit × List MemPlace)) (w : World) (hown : w.ownsMap Tryz.prog 9 R b nn D0) (hmax : Maps.size D0 ≤ maxLen) (hbytes : Maps.size D0 * 16 ≤ 140737488355328) :
    Calls Tryz.prog 58 #[.func (.func 101) #[] #[.pointer (some ⟨w.heap.size, 0, none⟩)]] (w.alloc (.cells #[.map (some b)] 104)) fun e w' => ∃ (v : Value) (ss : List (List UInt8)), e = .returned v ∧ ss.Perm (strKeys D0) ∧
      w'.ownsRow (w.alloc (.cells #[.map (some b)] 104)).heap.size 9 1 v ss.length ((ss.mergeSort (fun x y => decide (x ≤ y))).map encStr) ∧ Below (w.alloc (.cells #[.map (some b)] 104)).heap.size (w.alloc (.cells #[.map (some b)] 104)) w' := by
  have hbl := hown.lt
  have hseq : SeqGives Fence.wide 2 Tryz.prog 101 #[.pointer (some ⟨w.heap.size, 0, none⟩)] encStr (fun ss => ss.Perm (strKeys D0)) (Maps.size D0) (w.alloc (.cells #[.map (some b)] 104)) :=
    AnyZ.keys_gives (ρ := Tryz.keysK_ren) { Tryz.keysK with } Fence.wide _ trivial rfl (by omega) w.heap.size b nn D0 _ (by simp) (by simp) (by
      obtain ⟨es, clock, hb, Ft, hs, hD⟩ := hown
      exact ⟨es, clock, (Below.heap_alloc _ _ b hbl).trans hb, Ft, hs, hD⟩)
  refine Calls.mono (callsIn_wide.1 (AnyZ.sorted_in Tryz.sortedK Fence.wide 5 trivial trivial trivial trivial rfl (by omega) (sorts_k _) (enters_of Tryz.func100 (by kernel_rfl) rfl) 101 #[.pointer (some ⟨w.heap.size, 0, none⟩)] trivial (enters_of Tryz.func101 (by kernel_rfl) rfl) _ _ hmax hbytes _ hseq)) ?_
  rintro e w' ⟨v, ss, h1, h2, h3, -, h5⟩
  exact ⟨v, ss, h1, h2, h3, h5⟩
/-- what a map of names has -/
theorem keys_of {w : World} {b nn : Nat} {D : DataW Unit} {R : Value → Option (DataW Unit × List MemPlace)} (h : w.ownsMap Tryz.prog 9 R b nn D) {fd : Nme → Prop} (hf : ∀ n : Nme, Maps.has D (kyL n) = true ↔ fd n) : (∀ x : List UInt8, x ∈ strKeys D ↔ fd ⟨x.toArray⟩) ∧ (strKeys D).Nodup ∧ Maps.size D ≤ nn := by
  obtain ⟨es, e, hk⟩ := h.keysOf
  obtain ⟨es', e', hp⟩ := h.tidy (Maps.string_keyed Tryz.underlying9)
  subst e
  injection e' with e'
  subst e'
  have hs : ∀ p ∈ es, ∃ x, p.1 = .string x := fun p hp => by
    obtain ⟨v, hv⟩ := hk p hp
    obtain ⟨x, -, h2, -⟩ := Maps.keyOf_str Tryz.underlying9 hv
    exact ⟨x, h2⟩
  refine ⟨fun x => ?_, ?_, ?_⟩
  · rw [← hf, show kyL ⟨x.toArray⟩ = .string x by simp [kyL]]
    show x ∈ es.map (fun p => strOf p.1) ↔ es.any (fun p => p.1.sameKey (.string x)) = true
    rw [List.mem_map, List.any_eq_true]
    constructor
    · rintro ⟨p, h1, h2⟩
      obtain ⟨y, hy⟩ := hs p h1
      rw [hy] at h2
      exact ⟨p, h1, by rw [hy, show y = x from h2]; exact WideAt.sameKey_self trivial⟩
    · rintro ⟨p, h1, h2⟩
      exact ⟨p, h1, by rw [WideAt.sameKey_eq h2]; rfl⟩
  · show (es.map (fun p => strOf p.1)).Nodup
    rw [List.Nodup, List.pairwise_map]
    refine hp.imp_of_mem fun {p q} h1 h2 hne e => ?_
    obtain ⟨x, hx⟩ := hs p h1
    obtain ⟨y, hy⟩ := hs q h2
    rw [hx, hy] at e
    exact hne (by rw [hx, hy, show x = y from e])
  · obtain ⟨es2, clock, -, -, hsz, hD⟩ := h
    have : Maps.size (.map es : DataW Unit) = es2.size := by
      rw [hD]
      show List.length _ = _
      rw [length_sorted]
      simp
    omega
end Sx
end Go.Proofs.YtgpaajolcpgeaaaGreatDoor

namespace Go.Proofs.YtgpaajolcpgeaaaGreatDoor
open Go.RowKit Go.Maps Go.Sort
namespace Sx

theorem set_same {w : World} {g i : Nat} {cs : Array Value} {t : TypeId} {v : Value} (hg : w.heap[g]? = some (.cells cs t (0, 0))) (hc : cs[i]? = some v) : Below w.heap.size w (w.setCell ⟨g, i, none⟩ v) := by
 have h1 := heap_setCell_same w g i cs t v hg
 have h2 : cs.setIfInBounds i v = cs := by
  obtain ⟨hl, e⟩ := Array.getElem?_eq_some_iff.1 hc
  rw [← e]
  simp [Array.setIfInBounds, hl]
 rw [h2, ← hg] at h1
 have o := Only.set g i w v
 refine ⟨o.os, o.tape, o.output, by rw [o.size]; exact Nat.le_refl _, fun k _ => ?_⟩
 by_cases e : k = g
 ·rw [e]; exact h1
 ·exact o.block k e
/-- names are short -/
theorem fv_size (f : Nat) : ∀ {b : List Nme} {t : Tr} {n : Nme}, Al Bd4 t → n ∈ fvF f b t → n.size ≤ 1073741824 := by
 induction f with
 | zero => exact fun _ h => absurd h (by simp [fvF])
 | succ f ih =>
  intro b t n hB h
  unfold fvF at h
  rcases List.mem_append.1 h with h | h
  ·split at h
   ·rw [List.mem_singleton.1 h]
    exact hB.self.nm
   ·cases h
  ·obtain ⟨u, hu, h⟩ := List.mem_flatMap.1 h
   exact ih (hB.kid hu) h
/-- a row of names reads -/
theorem own_names {w : World} {base : Nat} {v : Value} {qs : List (List UInt8)} (h : w.ownsRow base 9 1 v qs.length (qs.map encStr)) : ∃ a c, v = .slice a qs.length c ∧ (qs.length = 0 ∨ ∃ g cur, a = some ⟨g, 0, none⟩ ∧ w.heap[g]? = some (.cells cur 9 (0, 0)) ∧ ∀ i (h : i < qs.length), cur[i]? = some (.string ⟨(qs[i]).toArray⟩)) := by
 rcases h.2 with ⟨e1, e2⟩ | ⟨g, cap, cur, e1, hb, hg, hc, hm, hs, ht⟩
 ·exact ⟨none, 0, by rw [e2]; exact e1, .inl e2⟩
 ·refine ⟨_, cap, e1, .inr ⟨g, cur, rfl, hg, fun i hi => ?_⟩⟩
  have h2 : (cur.toList.take (qs.length * 1))[i]? = some (.string ⟨(qs[i]).toArray⟩) := by
   rw [ht, List.getElem?_map, List.getElem?_eq_getElem hi]
   rfl
  rw [List.getElem?_take, if_pos (by omega)] at h2
  simpa using h2
/-- at first nothing is bound, seen or found -/
theorem fr_first {F : Nat → Prop} {m : Nat} {W : World} (h0 : W.heap[m]? = some (.map #[] 0)) (h1 : W.heap[m + 1]? = some (.map #[] 0)) (h2 : W.heap[m + 2]? = some (.map #[] 0)) (h3 : W.heap[m + 3]? = some (.map #[] 0)) (hF : ∀ b, F b → b < m ∨ m + 4 ≤ b) : FrM F m W (fun _ => 0) [[]] [] (fun _ => False) 0 (fun _ => False) where
 bnd := ⟨[], ⟨⟨#[], 0, h0, rfl⟩, by simp, List.Pairwise.nil⟩, ⟨fun n v h => absurd h (by simp), fun _ _ => rfl⟩⟩
 sco := ⟨[], ⟨⟨#[], 0, h1, rfl⟩, by simp, List.Pairwise.nil⟩, rfl, by simp⟩
 see := ⟨⟨#[], 0, h2, rfl⟩, by simp, List.Pairwise.nil⟩
 ent := by simp
 fnd := ⟨.map [], ⟨#[], 0, h3, ⟨by simp, MapKept.stamped_empty 0, by simp⟩, Nat.le_refl _, rfl⟩, fun n => by simp [Maps.has]⟩
 hF := hF
/-- what Free answers: the free names, rising, each once -/
def FrR (w : World) (t : Tr) (en : Ending) (w' : World) : Prop := ∃ (v : Value) (ss : List (List UInt8)), en = .returned v ∧ (∀ x : List UInt8, x ∈ ss ↔ Fv [] t ⟨x.toArray⟩) ∧ ss.Nodup ∧ ss.Pairwise (fun a b => leB a b = true) ∧ w'.ownsRow w.heap.size 9 1 v ss.length (ss.map encStr) ∧ Below w.heap.size w w'
theorem mk_m1 (w : World) : (Instr.makeMap 101 none).run Tryz.prog w = .ok (.map (some w.heap.size)) (w.alloc (.map #[] 0)) := by simp [Instr.makeMap]
theorem mk_m2 (w : World) : (Instr.makeMap 102 none).run Tryz.prog w = .ok (.map (some w.heap.size)) (w.alloc (.map #[] 0)) := by simp [Instr.makeMap]
theorem mk_m3 (w : World) : (Instr.makeMap 103 none).run Tryz.prog w = .ok (.map (some w.heap.size)) (w.alloc (.map #[] 0)) := by simp [Instr.makeMap]
theorem mk_m4 (w : World) : (Instr.makeMap 104 none).run Tryz.prog w = .ok (.map (some w.heap.size)) (w.alloc (.map #[] 0)) := by simp [Instr.makeMap]
set_option maxRecDepth 100000 in
set_option maxHeartbeats 6400000 in
theorem free_n {w : World} {x : TC} {t : Tr} {f : Nat} (hx : Rt An w x t) (hf : ¬ Dp f t) (hN : cntF f t ≤ 1073741824) (hC : ncF f t ≤ 1073741824) (hB : Al Bd4 t) :
  Calls Tryz.prog 29 #[x.val] w fun en w' => FrR w t en w' := by
 replace hx : Rt (fun b => b < w.heap.size) w x t := (rt_in hx).imp fun b hb => hb.2
 have b0 := below_alloc w (.cells #[.int .i64 x.k, .string x.nm, .slice x.na x.nn x.nc, .bool x.s, .slice x.a x.l x.c, .slice x.ka x.kn x.kc] 28)
 have y0 := vb_new w x
 have e0 : (w.alloc (.cells #[.int .i64 x.k, .string x.nm, .slice x.na x.nn x.nc, .bool x.s, .slice x.a x.l x.c, .slice x.ka x.kn x.kc] 28)).heap.size = w.heap.size + 1 := by simp
 have hx0 := rt_below hx b0
 go_enter Tryz.func29, Tryz.ntmps29
 iterate 6 (first | go_skip | go_guarded | go_step | go_upon | go_simp)
 generalize w.alloc (.cells #[.int .i64 x.k, .string x.nm, .slice x.na x.nn x.nc, .bool x.s, .slice x.a x.l x.c, .slice x.ka x.kn x.kc] 28) = W at *
 generalize hz : w.heap.size = bt at *
 replace hz := hide hz
 have q1 := mk_m1 W
 have q2 := mk_m2 (W.alloc (.map #[] 0))
 have q3 := mk_m3 ((W.alloc (.map #[] 0)).alloc (.map #[] 0))
 have q4 := mk_m4 (((W.alloc (.map #[] 0)).alloc (.map #[] 0)).alloc (.map #[] 0))
 rw [show (W.alloc (.map #[] 0)).heap.size = bt + 2 by simp [e0]] at q2
 rw [show ((W.alloc (.map #[] 0)).alloc (.map #[] 0)).heap.size = bt + 3 by simp [e0]] at q3
 rw [show (((W.alloc (.map #[] 0)).alloc (.map #[] 0)).alloc (.map #[] 0)).heap.size = bt + 4 by simp [e0]] at q4
 rw [e0] at q1
 go_upto_region 2 with (fail)
 have b1 := below_alloc W (.map #[] 0)
 have b2 := below_alloc (W.alloc (.map #[] 0)) (.map #[] 0)
 have b3 := below_alloc ((W.alloc (.map #[] 0)).alloc (.map #[] 0)) (.map #[] 0)
 have b4 := below_alloc (((W.alloc (.map #[] 0)).alloc (.map #[] 0)).alloc (.map #[] 0)) (.map #[] 0)
 have b5 := below_alloc ((((W.alloc (.map #[] 0)).alloc (.map #[] 0)).alloc (.map #[] 0)).alloc (.map #[] 0)) (.cells #[.map (some (bt + 1)), .map (some (bt + 2)), .map (some (bt + 3)), .map (some (bt + 4))] 106)
 have n1 := heap_alloc_new W (.map #[] 0)
 have n2 := heap_alloc_new (W.alloc (.map #[] 0)) (.map #[] 0)
 have n3 := heap_alloc_new ((W.alloc (.map #[] 0)).alloc (.map #[] 0)) (.map #[] 0)
 have n4 := heap_alloc_new (((W.alloc (.map #[] 0)).alloc (.map #[] 0)).alloc (.map #[] 0)) (.map #[] 0)
 have n5 := heap_alloc_new ((((W.alloc (.map #[] 0)).alloc (.map #[] 0)).alloc (.map #[] 0)).alloc (.map #[] 0)) (.cells #[.map (some (bt + 1)), .map (some (bt + 2)), .map (some (bt + 3)), .map (some (bt + 4))] 106)
 have s2 : (W.alloc (.map #[] 0)).heap.size = bt + 2 := by simp [e0]
 have s3 : ((W.alloc (.map #[] 0)).alloc (.map #[] 0)).heap.size = bt + 3 := by simp [e0]
 have s4 : (((W.alloc (.map #[] 0)).alloc (.map #[] 0)).alloc (.map #[] 0)).heap.size = bt + 4 := by simp [e0]
 have s5 : ((((W.alloc (.map #[] 0)).alloc (.map #[] 0)).alloc (.map #[] 0)).alloc (.map #[] 0)).heap.size = bt + 5 := by simp [e0]
 have s6 : (((((W.alloc (.map #[] 0)).alloc (.map #[] 0)).alloc (.map #[] 0)).alloc (.map #[] 0)).alloc (.cells #[.map (some (bt + 1)), .map (some (bt + 2)), .map (some (bt + 3)), .map (some (bt + 4))] 106)).heap.size = bt + 6 := by simp [e0]
 rw [e0] at n1 b1
 rw [s2] at n2 b2
 rw [s3] at n3 b3
 rw [s4] at n4 b4
 rw [s5] at n5 b5
 have m1 := (b5.block _ (by omega)).trans ((b4.block _ (by omega)).trans ((b3.block _ (by omega)).trans ((b2.block (bt + 1) (by omega)).trans n1)))
 have m2 := (b5.block _ (by omega)).trans ((b4.block _ (by omega)).trans ((b3.block (bt + 2) (by omega)).trans n2))
 have m3 := (b5.block _ (by omega)).trans ((b4.block (bt + 3) (by omega)).trans n3)
 have m4 := (b5.block (bt + 4) (by omega)).trans n4
 have kb := (((b1.trans (b2.mono (by omega))).trans (b3.mono (by omega))).trans (b4.mono (by omega))).trans (b5.mono (by omega))
 have y5 : VB _ bt x := (kb.block bt (by omega)).trans y0
 have hx5 : Rt (fun b => b < bt) _ x t := hx0.kf ⟨kb.size, fun b hb _ => kb.block b (by omega)⟩
 have kw := hide (b0.trans (kb.mono (by omega)))
 clear b1 b2 b3 b4 b5 n1 n2 n3 n4 s2 s3 s4 s5 kb b0 y0 hx0 q1 q2 q3 q4 e0 hx
 rw [show bt + 1 + 1 + 1 + 1 + 1 = bt + 5 from rfl]
 generalize ((((W.alloc (.map #[] 0)).alloc (.map #[] 0)).alloc (.map #[] 0)).alloc (.map #[] 0)).alloc (.cells #[.map (some (bt + 1)), .map (some (bt + 2)), .map (some (bt + 3)), .map (some (bt + 4))] 106) = W5 at *
 have b6 := below_alloc W5 (.cells #[.int .i64 x.k, .string x.nm, .slice x.na x.nn x.nc, .bool x.s, .slice x.a x.l x.c, .slice x.ka x.kn x.kc] 28)
 have n6 := heap_alloc_new W5 (.cells #[.int .i64 x.k, .string x.nm, .slice x.na x.nn x.nc, .bool x.s, .slice x.a x.l x.c, .slice x.ka x.kn x.kc] 28)
 rw [s6] at n6
 have hF : ∀ b, (fun b => b < bt + 1 ∨ bt + 1 + 4 ≤ b) b → b < bt + 1 ∨ bt + 1 + 4 ≤ b := fun b hb => hb
 have fr := fr_first (F := fun b => b < bt + 1 ∨ bt + 1 + 4 ≤ b) (m := bt + 1) ((b6.block _ (by omega)).trans m1) ((b6.block _ (by omega)).trans m2) ((b6.block _ (by omega)).trans m3) ((b6.block _ (by omega)).trans m4) hF
 have hkl : KL (fun b => b < bt + 1 ∨ bt + 1 + 4 ≤ b) _ ⟨some ⟨bt + 6, 0, none⟩, 1, 1⟩ [t] := rk_one n6 (.inr (by omega)) ((rt_below hx5 b6).imp fun b hb => .inl (by omega))
 have one : ∀ {P : Tr → Prop}, P t → ∀ u ∈ [t], P u := fun h u hu => List.mem_singleton.1 hu ▸ h
 have hlk := hide (look_n _ (bt + 1) f f fr hkl (one hf) (one hf) (one hB) (by rw [cnL_one]; exact hN) (s := 0) (b := []) rfl (fun k => by simp) (fun v hv => hv.elim) ⟨fun n => by rw [ncL_one]; omega, by rw [ncL_one, List.length_singleton]; omega, by rw [cnL_one]; omega⟩)
 have fb6 : FB _ (bt + 5) (bt + 1) := (b6.block (bt + 5) (by omega)).trans n5
 have c0 := y5.c0
 have c1 := y5.c1
 have c2 := y5.c2
 have c3 := y5.c3
 have c4 := y5.c4
 have c5 := y5.c5
 have fb5 : FB W5 (bt + 5) (bt + 1) := n5
 have a0 := fb5.c0
 have a1 := fb5.c1
 have a2 := fb5.c2
 have a3 := fb5.c3
 replace kw := hide (kw.out.trans (b6.mono (by omega)))
 replace fb6 := hide fb6
 have s7 : Hid ((W5.alloc (.cells #[.int .i64 x.k, .string x.nm, .slice x.na x.nn x.nc, .bool x.s, .slice x.a x.l x.c, .slice x.ka x.kn x.kc] 28)).heap.size = bt + 7) := hide (by simp [s6])
 clear fr hkl m1 m2 m3 m4 n5 y5 hx5 b6 n6 fb5 one
 go_wp2_with fail
 refine hlk.out.mono ?_
 rintro en w1 ⟨rfl, SC1, E1, fd1, nf1, h1, -, -, hn1, hfd, k1⟩
 have fb1 := fb6.out.b4 k1 (by omega)
 have d3 := fb1.c3
 obtain ⟨D, hD, hDf⟩ := h1.fnd
 obtain ⟨hk1, hk2, hk3⟩ := keys_of hD hDf
 rw [cnL_one] at hn1
 have hky := hide (keys_n (some (bt + 1 + 3)) w1)
 have hsr := hide (sorted_n (bt + 1 + 3) nf1 D R1 w1 hD (by unfold maxLen; omega) (by omega))
 have k2 : Hid (RowKit.Below bt w w1) := hide ⟨k1.os.trans kw.out.os, k1.tape.trans kw.out.tape, k1.output.trans kw.out.output, Nat.le_trans kw.out.size k1.size, fun b hb => (k1.block b (by have := s7.out; omega) (.inl (by omega))).trans (kw.out.block b hb)⟩
 have hsz : bt ≤ w1.heap.size := by
  have := k1.size
  have := s7.out
  omega
 have hme : Hid (∀ x : List UInt8, x ∈ strKeys D ↔ Fv [] t ⟨x.toArray⟩) := hide fun x => by
  rw [hk1, hfd]
  constructor
  ·rintro (h | ⟨u, hu, h⟩)
   ·exact h.elim
   ·exact List.mem_singleton.1 hu ▸ h
  ·exact fun h => .inr ⟨t, List.mem_singleton.2 rfl, h⟩
 replace hk2 := hide hk2
 clear hlk c0 c1 c2 c3 c4 c5 a0 a1 a2 a3 fb6 kw s7 s6 h1 hfd k1 fb1 hD hDf hk1 hF
 go_wp2_with fail
 refine hky.out.mono ?_
 rintro en w2 ⟨rfl, rfl⟩
 go_wp2_with fail
 refine hsr.out.mono ?_
 rintro en w3 ⟨v, ss, rfl, hperm, hrow, kb⟩
 clear hky hsr
 have b2 := below_alloc w1 (.cells #[.map (some (bt + 1 + 3))] 104)
 obtain ⟨qs, hqs⟩ : ∃ qs, ss.mergeSort (fun x y => decide (x ≤ y)) = qs := ⟨_, rfl⟩
 have hqp : qs.Perm (strKeys D) := (hqs ▸ List.mergeSort_perm ss _).trans hperm
 have hql : ss.length = qs.length := by rw [← hqs]; simp
 have hso : qs.Pairwise (fun a b => leB a b = true) := by
  rw [← hqs]
  exact List.pairwise_mergeSort (fun a b c h1 h2 => by simp at h1 h2 ⊢; exact List.le_trans h1 h2) (fun a b => by simp; exact List.le_total a b) ss
 rw [hqs, hql] at hrow
 have k3 := hide (k2.out.trans ((grow_step kb b2).mono hsz))
 have hnd : qs.Nodup := hqp.nodup_iff.2 hk2.out
 have hmx : ∀ x : List UInt8, x ∈ qs ↔ Fv [] t ⟨x.toArray⟩ := fun x => hqp.mem_iff.trans (hme.out x)
 have hln : qs.length ≤ 1073741824 := by
  rw [hqp.length_eq]
  have : (strKeys D).length = Maps.size D := by
   cases D <;> simp [strKeys, Maps.size]
  omega
 have hsz3 : bt ≤ (w1.alloc (.cells #[.map (some (bt + 1 + 3))] 104)).heap.size := Nat.le_trans hsz b2.size
 generalize (w1.alloc (.cells #[.map (some (bt + 1 + 3))] 104)).heap.size = base at *
 clear hperm hqs hql hqp hme hk2 kb b2 k2 d3
 obtain ⟨a, c, rfl, hblk⟩ := own_names hrow
 obtain ⟨n, hn⟩ : ∃ n, qs.length = n := ⟨_, rfl⟩
 have hfin : Hid (∀ wr, RowKit.Below w3.heap.size w3 wr → FrR w t (.returned (.slice a n c)) wr) := hide fun wr k => by
  have hr := hrow.kept (gb_of (m := wr.heap.size) k) (by
   rcases Option.eq_none_or_eq_some (Value.slice a qs.length c).ownBlock with e | ⟨b, e⟩
   ·exact .inl e
   ·refine .inr fun e2 => ?_
    have := (hrow.lt b e).2
    have := k.size
    rw [e] at e2
    cases e2
    omega)
  refine ⟨_, qs, rfl, hmx, hnd, hso, ?_, ?_⟩
  ·rw [hn] at hr ⊢
   refine ⟨hr.1, hr.2.imp id fun ⟨g, cap, cur, e1, hb, h2⟩ => ⟨g, cap, cur, e1, by rw [hz.out]; omega, h2⟩⟩
  ·rw [hz.out]
   exact k3.out.trans (k.mono k3.out.size |>.mono (by have := k3.out.size; rw [← hz.out]; exact Nat.le_refl _))
 have hst : ∀ i (h : i < qs.length), (⟨(qs[i]).toArray⟩ : ByteArray).size ≤ 1073741824 := fun i h => by
  obtain ⟨f', hf'⟩ := (hmx _).1 (List.getElem_mem h)
  exact fv_size f' hB hf'
 rw [hn] at hln ⊢
 replace hn := hide hn
 clear hrow hmx hnd hso k3 hz hB hf hC hN hn1 hk3
 go_wp2_with fail
 go_loopw [21] (fun i wr => ∃ j : Nat, j ≤ n ∧ i = .int .i64 j ∧ Hid (RowKit.Below w3.heap.size w3 wr)) (fun i _ => n - (intOf i).toNat)
 case atStart => exact ⟨0, Nat.zero_le _, rfl, hide (Below.refl _ _)⟩
 case round =>
  obtain ⟨j, hj, rfl, kr⟩ := hrel
  by_cases hjn : j < n
  ·have hlt : decide ((j : Int) < (n : Int)) = true := by
    rw [decide_eq_true_eq]
    omega
   have hi2 : (j : Int) < (n : Int) := by omega
   have hjL : j < qs.length := by rw [hn.out]; exact hjn
   obtain ⟨g, cur, rfl, hg, hcur⟩ := hblk.resolve_left (by omega)
   obtain ⟨s, hs⟩ : ∃ s : ByteArray, (⟨(qs[j]).toArray⟩ : ByteArray) = s := ⟨_, rfl⟩
   have hcj := hcur j hjL
   have hss := hst j hjL
   rw [hs] at hcj hss
   have hgr := (kr.out.block g (lt_of_block hg)).trans hg
   have ct : wr.cell? ⟨g, j, none⟩ = some (.string s) := by rw [cell_of_row wr g j _ _ (0, 0) hgr]; exact hcj
   have hcl := hide (clone_n s wr (by omega))
   have hwj : IntKind.i64.wrap ((j : Int) + 1) = ((j + 1 : Nat) : Int) := by
    rw [IntKind.wrap_i64]
    omega
   clear hs
   go_wp2_with fail
   refine hcl.out.mono ?_
   rintro en w4 ⟨rfl, k4⟩
   have hg4 := (k4.block g (lt_of_block hgr)).trans hgr
   have c4 : w4.cell? ⟨g, j, none⟩ = some (.string s) := by rw [cell_of_row w4 g j _ _ (0, 0) hg4]; exact hcj
   have f4 := frozen_of_row w4 g j _ _ hg4
   have k5 := hide (grow_step (set_same hg4 hcj) (grow_step k4 kr.out))
   clear hcl k4 kr hg4 hgr ct
   go_wp2
   go_roundw
   case measure => simp [intOf]; omega
   case rel => exact ⟨j + 1, by omega, rfl, k5⟩
  ·obtain rfl : j = n := by omega
   have hlt : decide ((j : Int) < (j : Int)) = false := by simp
   have hres := hide (hfin.out wr kr.out)
   clear hfin kr hblk
   go_wp2
   refine bodyPost_ret (results_tmp rfl _ _ _) rfl ?_
   exact hres.out
end Sx
end Go.Proofs.YtgpaajolcpgeaaaGreatDoor
