/-
 Several texts in one: EW, LArenaOnce.
-/
import Derived.Test.YtjdghmkolkidpaaGreatDoorU38
namespace Go.Proofs.YtjdghmkolkidpaaGreatDoor
open Go.RowKit Go.Sort Go.Shelf
open Tm At
namespace Nt

theorem zn_limb {w : World} {s : Bool} {a : Option Addr} {l c : Nat} {z : Int} (h : Zn w s a l c z) : l = lim z := by
 obtain ⟨n, ⟨xs, hr, hc, hv⟩, hz, _⟩ := h
 have e := canon_limbs hc
 have hl : l = xs.length := hr.1.symm
 have hn : z.natAbs = (val xs).toNat := by
  have h0 : 0 ≤ n := by rw [← hv]; exact val_nonneg hr.2.2.2.1
  cases s <;> simp [sg] at hz <;> omega
 unfold lim
 rw [hn, ← e, List.length_map, hl]
theorem pn_limb {w : World} {ad : Option Addr} {n : Nat} {ps : List (Int × Int)} {B B' : Nat} (h : Pn w ad n ps B) (hl : ∀ p ∈ ps, lim p.2 ≤ B') : Pn w ad n ps B' := by
 refine ⟨h.1, ?_⟩
 rcases h.2 with h0 | ⟨b, off, e, hb, h2⟩
 ·exact .inl h0
 ·refine .inr ⟨b, off, e, hb, fun i hi => ?_⟩
  obtain ⟨s, a, l, c, c0, c1, c2, hz, _, hi6⟩ := h2 i hi
  exact ⟨s, a, l, c, c0, c1, c2, hz, by rw [zn_limb hz]; exact hl _ (List.getElem_mem hi), hi6⟩
theorem fit_std {f : Atm} (h : Fit f) : Std f.ps := by
 rcases h with ⟨_, _, h, _⟩ | ⟨_, _, h, _⟩ | ⟨_, h, _⟩
 ·rw [h]; exact ⟨by simp, by simp⟩
 ·exact h
 ·exact h.std
theorem atomA_fit {f : Atm} (h : Fit f) : atomA f.kind f.d f.ps f.k = .inr ⟨f.kind, f.d, f.ps, f.k, 0, []⟩ := by
 unfold atomA
 rw [← lays_eq (fit_std h) fun _ => rfl, h.again]

theorem ao_back {w w1 w' : World} {e : Ending} {pa pm : Nat} {nn kk : Int} {F : Nat → Prop} {r : St × Option Int} (k : Below w.heap.size w w1) (h : AO w1 w' e pa pm nn kk F r) : AO w w' e pa pm nn kk F r := by
 obtain ⟨x, er, h1, h2, h3, F', h4, h5, h6⟩ := h
 exact ⟨x, er, h1, h2, h3, F', h4, fun b hb => (h5 b hb).imp id fun h => Nat.le_trans k.size h, ButF.trans (butF_below k) h6 fun _ _ h => h⟩

set_option maxRecDepth 100000 in
set_option maxHeartbeats 3200000 in
theorem remade_n {w : World} {pa pm : Nat} {nn : Int} {s : St} {F : Nat → Prop} {i : Nat} {n : Nd} {sd : Bool} {ad : Option Addr} {ld cd : Nat} {ap : Option Addr} {np cp : Nat} {sk : Bool} {ak : Option Addr} {lk ck : Nat} {ka : Option Addr} {kn kc : Nat} {B : Nat}
  (hG : AG w pa pm nn 8 s F) (hi : s.L[i]? = some n) (hg : Gd 8 i n) (hd : Zn w sd ad ld cd n.d) (hP : Pn w ap np n.ps B) (hk : Zn w sk ak lk ck n.k) (hI : IL w ka kn n.kids) (hnF : InF (fun b => ¬ F b ∧ b ≠ pm) ka kn) (htab : Tab w) :
  Calls Tryz.prog 15 #[.pointer (some ⟨pa, 0, none⟩), .agg #[.int .i64 n.kind, .bool sd, .slice ad ld cd, .slice ap np cp, .bool sk, .slice ak lk ck, .int .i64 n.var, .slice ka kn kc]] w fun e w' => AO w w' e pa pm nn 8 F (s, some (i : Int)) := by
 have hput : put nn 8 s n = (s, some (i : Int)) := put_found hG.uq hi
 have hil := (List.getElem?_eq_some_iff.1 hi).1
 have b0 := below_alloc w (.cells #[.int .i64 n.kind, .bool sd, .slice ad ld cd, .slice ap np cp, .bool sk, .slice ak lk ck, .int .i64 n.var, .slice ka kn kc] 39)
 have y := NB.new w n.kind sd ad ld cd ap np cp sk ak lk ck n.var ka kn kc
 have u0 := y.c0
 have u1 := y.c1
 have u2 := y.c2
 have u3 := y.c3
 have u4 := y.c4
 have u5 := y.c5
 have u6 := y.c6
 have u7 := y.c7
 have hG1 := hide (hG.below b0)
 have ht1 := hide (htab.below b0)
 rcases hg with ⟨f, hf, rfl, hpl, hlim⟩ | ⟨kd, kids, hkd, rfl, h2, h5, hris, hlt⟩ | ⟨kd, v, x, hkd, rfl, hv0, hv4, hx0, hxi⟩
 ·dsimp only at hd hP hk hI u0 u6 b0 y hG1 ht1 ⊢
  have hfk := fit_kind hf
  have h5 : (f.kind == 5) = false := by simp; omega
  have h6 : (f.kind == 6) = false := by simp; omega
  have h7 : (f.kind == 7) = false := by simp; omega
  have h8 : (f.kind == 8) = false := by simp; omega
  have hld : ld ≤ 8 := by rw [zn_limb hd]; have := hlim f.d (by simp [nums]); omega
  have hlk : lk ≤ 8 := by rw [zn_limb hk]; have := hlim f.k (by simp [nums]); omega
  have hP8 : Pn w ap np f.ps 8 := pn_limb hP fun p hp => by have := hlim p.2 (by simp only [nums]; exact List.mem_cons_of_mem _ (List.mem_cons_of_mem _ (List.mem_map.2 ⟨p, hp, rfl⟩))); omega
  have hnp : np ≤ 209716 := by have := hP.1; omega
  have hat := hide (atom_ao (kd := f.kind) (cp := cp) hG1.out (hd.below b0).zm hld (hP8.below b0).pr (hk.below b0).zm hlk hnp (by omega) ht1.out)
  rw [atomA_fit hf] at hat
  have hat2 : Hid (∀ e w', AO (w.alloc (.cells #[.int .i64 f.kind, .bool sd, .slice ad ld cd, .slice ap np cp, .bool sk, .slice ak lk ck, .int .i64 0, .slice ka kn kc] 39)) w' e pa pm nn 8 F (asked nn 8 s (.inr ⟨f.kind, f.d, f.ps, f.k, 0, []⟩)) → AO w w' e pa pm nn 8 F (s, some (i : Int))) := hide fun e w' h => ao_back b0 (hput ▸ h)
  clear hd hP hk hI hP8 hG hG1 htab ht1 b0 y hput
  go_enter Tryz.func15, Tryz.ntmps15
  go_wp2_with fail
  refine hat.out.mono ?_
  intro e w3 hAO
  replace hAO := hat2.out e w3 hAO
  clear hat hat2
  obtain ⟨ra, rb, rfl⟩ : ∃ ra rb : Int, e = .returned (.tuple #[.int .i64 ra, .int .i64 rb]) := by
   obtain ⟨x, er, e1, _⟩ := hAO
   exact ⟨x, er, e1⟩
  replace hAO := hide hAO
  go_wp2
  refine bodyPost_ret (results_tmp2 rfl _ _ _) rfl ?_
  exact hAO.out
 ·dsimp only at hd hP hk hI u0 u6 b0 y hG1 ht1 ⊢
  rcases hkd with rfl | rfl
  ·have hjo := hide (join_ao (kd := 5) (kc := kc) (l := kids) (.inl rfl) hG1.out (hI.below b0 |> fun h => (by have := h.1; rw [this]; exact h)) (by omega) (fun x hx => by have := hlt x hx; omega) ht1.out)
   have hkl : kids.length = kn := hI.1
   rw [hkl] at hjo
   have hjA : joinA 5 kids = .inr ⟨5, 0, [], 0, 0, kids⟩ := by
    unfold joinA
    rw [ris_id hris]
    match kids, h2 with
    | a :: b :: t, _ => rfl
   rw [hjA] at hjo
   have hat2 : Hid (∀ e w', AO (w.alloc (.cells #[.int .i64 5, .bool sd, .slice ad ld cd, .slice ap np cp, .bool sk, .slice ak lk ck, .int .i64 0, .slice ka kn kc] 39)) w' e pa pm nn 8 F (asked nn 8 s (.inr ⟨5, 0, [], 0, 0, kids⟩)) → AO w w' e pa pm nn 8 F (s, some (i : Int))) := hide fun e w' h => ao_back b0 (hput ▸ h)
   clear hd hP hk hI hG hG1 htab ht1 b0 y hput
   go_enter Tryz.func15, Tryz.ntmps15
   go_wp2_with fail
   refine hjo.out.mono ?_
   intro e w3 hAO
   replace hAO := hat2.out e w3 hAO
   clear hjo hat2
   obtain ⟨ra, rb, rfl⟩ : ∃ ra rb : Int, e = .returned (.tuple #[.int .i64 ra, .int .i64 rb]) := by
    obtain ⟨x, er, e1, _⟩ := hAO
    exact ⟨x, er, e1⟩
   replace hAO := hide hAO
   go_wp2
   refine bodyPost_ret (results_tmp2 rfl _ _ _) rfl ?_
   exact hAO.out
  ·have hjo := hide (join_ao (kd := 6) (kc := kc) (l := kids) (.inr rfl) hG1.out (hI.below b0 |> fun h => (by have := h.1; rw [this]; exact h)) (by omega) (fun x hx => by have := hlt x hx; omega) ht1.out)
   have hkl : kids.length = kn := hI.1
   rw [hkl] at hjo
   have hjA : joinA 6 kids = .inr ⟨6, 0, [], 0, 0, kids⟩ := by
    unfold joinA
    rw [ris_id hris]
    match kids, h2 with
    | a :: b :: t, _ => rfl
   rw [hjA] at hjo
   have hat2 : Hid (∀ e w', AO (w.alloc (.cells #[.int .i64 6, .bool sd, .slice ad ld cd, .slice ap np cp, .bool sk, .slice ak lk ck, .int .i64 0, .slice ka kn kc] 39)) w' e pa pm nn 8 F (asked nn 8 s (.inr ⟨6, 0, [], 0, 0, kids⟩)) → AO w w' e pa pm nn 8 F (s, some (i : Int))) := hide fun e w' h => ao_back b0 (hput ▸ h)
   clear hd hP hk hI hG hG1 htab ht1 b0 y hput
   go_enter Tryz.func15, Tryz.ntmps15
   go_wp2_with fail
   refine hjo.out.mono ?_
   intro e w3 hAO
   replace hAO := hat2.out e w3 hAO
   clear hjo hat2
   obtain ⟨ra, rb, rfl⟩ : ∃ ra rb : Int, e = .returned (.tuple #[.int .i64 ra, .int .i64 rb]) := by
    obtain ⟨x, er, e1, _⟩ := hAO
    exact ⟨x, er, e1⟩
   replace hAO := hide hAO
   go_wp2
   refine bodyPost_ret (results_tmp2 rfl _ _ _) rfl ?_
   exact hAO.out
 ·dsimp only at hd hP hk hI u0 u6 b0 y hG1 ht1 ⊢
  rcases hkd with rfl | rfl
  ·have hkl : 0 < kn := by have := hI.1; simp at this; omega
   rcases hI.2 with h0 | ⟨bK, oK, rfl, hbK, hcK⟩
   ·omega
   have cK := (hcK 0 (by simp)).1
   simp only [Nat.add_zero, List.getElem_cons_zero] at cK
   have hbF := hnF bK oK rfl hkl
   have hat2 : Hid (∀ e w', AO (w.alloc (.cells #[.int .i64 7, .bool sd, .slice ad ld cd, .slice ap np cp, .bool sk, .slice ak lk ck, .int .i64 v, .slice (some ⟨bK, oK, none⟩) kn kc] 39)) w' e pa pm nn 8 F (asked nn 8 s (.inr ⟨7, 0, [], 0, v, [x]⟩)) → AO w w' e pa pm nn 8 F (s, some (i : Int))) := hide fun e w' h => ao_back b0 (hput ▸ h)
   have hml := hG.mb.lt
   have hFl := hG.fl
   replace cK := (b0.cell (p := ⟨bK, oK, none⟩) hbK).trans cK
   have hbK2 : bK < (w.alloc (.cells #[.int .i64 7, .bool sd, .slice ad ld cd, .slice ap np cp, .bool sk, .slice ak lk ck, .int .i64 v, .slice (some ⟨bK, oK, none⟩) kn kc] 39)).heap.size := Nat.lt_of_lt_of_le hbK b0.size
   clear hd hP hk hI hG htab b0 hput hcK hnF
   go_enter Tryz.func15, Tryz.ntmps15
   go_wp2_with fail
   clear u0 u1 u2 u3 u4 u5 u6 u7
   generalize w.alloc (.cells #[.int .i64 7, .bool sd, .slice ad ld cd, .slice ap np cp, .bool sk, .slice ak lk ck, .int .i64 v, .slice (some ⟨bK, oK, none⟩) kn kc] 39) = w1 at *
   generalize hpe : w.heap.size = p at *
   have kD := grow_drew (Below.refl w1.heap.size w1)
   refine wp_region_held_drew (S := (fun w' => w'.cell? ⟨p, 0, none⟩ = some (.int .i64 7) ∧ w'.cell? ⟨p, 6, none⟩ = some (.int .i64 v) ∧ w'.cell? ⟨p, 7, none⟩ = some (.slice (some ⟨bK, oK, none⟩) kn kc) ∧ w'.cell? ⟨bK, oK, none⟩ = some (.int .i64 x))) (by kernel_rfl) (⟨(y.below kD).c0, (y.below kD).c6, (y.below kD).c7, (kD.cell (p := ⟨bK, oK, none⟩) hbK2).trans cK⟩) (fun hHeld => ?_)
   show wpAnyH _ _ _ _ _ 14 _ _ _
   refine wpAnyH_take (i := 0) (oi := ⟨some 30, _, _, _, _, _⟩) (v := ?_) rfl (by kernel_rfl) (by kernel_rfl) (by kernel_rfl) (fun _ _ _ h => h) (Or.inl ⟨by rfl, ?_⟩) (by assumption) ?_
   rotate_left
   ·intro wq hSw; (try dsimp only at hSw); go_simp; (try with_reducible rfl)
   (try simp only [Act.put, List.setIfInBounds_toArray, List.set_cons_zero, List.set_cons_succ])
   refine wpAnyH_take (i := 1) (oi := ⟨some 31, _, _, _, _, _⟩) (v := ?_) rfl (by kernel_rfl) (by kernel_rfl) (by kernel_rfl) (fun _ _ _ h => h) (Or.inl ⟨by rfl, ?_⟩) (by assumption) ?_
   rotate_left
   ·intro wq hSw; (try dsimp only at hSw); go_simp; (try with_reducible rfl)
   (try simp only [Act.put, List.setIfInBounds_toArray, List.set_cons_zero, List.set_cons_succ])
   refine wpAnyH_take (i := 2) (oi := ⟨some 32, _, _, _, _, _⟩) (v := ?_) rfl (by kernel_rfl) (by kernel_rfl) (by kernel_rfl) (fun _ _ _ h => h) (Or.inl ⟨by rfl, ?_⟩) (by assumption) ?_
   rotate_left
   ·intro wq hSw; (try dsimp only at hSw); go_simp; (try with_reducible rfl)
   (try simp only [Act.put, List.setIfInBounds_toArray, List.set_cons_zero, List.set_cons_succ])
   refine wpAnyH_take (i := 3) (oi := ⟨some 33, _, _, _, _, _⟩) (v := ?_) rfl (by kernel_rfl) (by kernel_rfl) (by kernel_rfl) (fun _ _ _ h => h) (Or.inl ⟨by rfl, ?_⟩) (by assumption) ?_
   rotate_left
   ·intro wq hSw; (try dsimp only at hSw); go_simp; (try with_reducible rfl)
   (try simp only [Act.put, List.setIfInBounds_toArray, List.set_cons_zero, List.set_cons_succ])
   refine wpAnyH_take (i := 4) (oi := ⟨some 34, _, _, _, _, _⟩) (v := ?_) rfl (by kernel_rfl) (by kernel_rfl) (by kernel_rfl) (fun _ _ _ h => h) (Or.inl ⟨by rfl, ?_⟩) (by assumption) ?_
   rotate_left
   ·intro wq hSw; (try dsimp only at hSw); go_simp; (try with_reducible rfl)
   (try simp only [Act.put, List.setIfInBounds_toArray, List.set_cons_zero, List.set_cons_succ])
   refine wpAnyH_take (i := 5) (oi := ⟨some 35, _, _, _, _, _⟩) (v := ?_) rfl (by kernel_rfl) (by kernel_rfl) (by kernel_rfl) (fun _ _ _ h => h) (Or.inl ⟨by rfl, ?_⟩) (by assumption) ?_
   rotate_left
   ·intro wq hSw; (try dsimp only at hSw); go_simp; (try with_reducible rfl)
   (try simp only [Act.put, List.setIfInBounds_toArray, List.set_cons_zero, List.set_cons_succ])
   refine wpAnyH_take (i := 6) (oi := ⟨some 36, _, _, _, _, _⟩) (v := ?_) rfl (by kernel_rfl) (by kernel_rfl) (by kernel_rfl) (fun _ _ _ h => h) (Or.inl ⟨by rfl, ?_⟩) (by assumption) ?_
   rotate_left
   ·intro wq hSw; (try dsimp only at hSw); go_simp; (try with_reducible rfl)
   (try simp only [Act.put, List.setIfInBounds_toArray, List.set_cons_zero, List.set_cons_succ])
   refine wpAnyH_take (i := 7) (oi := ⟨some 37, _, _, _, _, _⟩) (v := ?_) rfl (by kernel_rfl) (by kernel_rfl) (by kernel_rfl) (fun _ _ _ h => h) (Or.inl ⟨by rfl, ?_⟩) (by assumption) ?_
   rotate_left
   ·intro wq hSw; (try dsimp only at hSw); go_simp; (try with_reducible rfl)
   (try simp only [Act.put, List.setIfInBounds_toArray, List.set_cons_zero, List.set_cons_succ])
   refine wpAnyH_take (i := 8) (oi := ⟨some 38, _, _, _, _, _⟩) (v := ?_) rfl (by kernel_rfl) (by kernel_rfl) (by kernel_rfl) (fun _ _ _ h => h) (Or.inl ⟨by rfl, ?_⟩) (by assumption) ?_
   rotate_left
   ·intro wq hSw; (try dsimp only at hSw); go_simp; (try with_reducible rfl)
   (try simp only [Act.put, List.setIfInBounds_toArray, List.set_cons_zero, List.set_cons_succ])
   refine wpAnyH_ready (rs := [9]) (by kernel_rfl) (by simp) ?_
   refine AllReadyH.cons (o := ⟨some 39, _, _, _, _, _⟩) rfl (fun K hK => ?_) AllReadyH.nil
   go_simp
   refine Calls.mono (bind_ao (kd := 7) (.inl rfl) (hG1.out.below kD) (by unfold I64; omega) (show 0 ≤ x ∧ x < (s.L.length : Int) by omega) (ht1.out.below kD)) ?_
   intro e w3 hAO
   obtain ⟨ra, rb, rfl⟩ : ∃ ra rb : Int, e = .returned (.tuple #[.int .i64 ra, .int .i64 rb]) := by obtain ⟨x, er, e1, _⟩ := hAO; exact ⟨x, er, e1⟩
   have hB3 : ButF (fun b => b = pm ∨ F b) w1.drew w3 := by obtain ⟨_, _, _, _, _, _, _, _, h9⟩ := hAO; exact h9
   have hq : w3.heap[p]? = w1.heap[p]? := (hB3.block p (Nat.lt_of_lt_of_le y.lt kD.size) fun hf => by rcases hf with rfl | hf; omega; have := hFl p hf; omega).trans (kD.block p y.lt)
   have hqK : w3.heap[bK]? = w1.heap[bK]? := (hB3.block bK (Nat.lt_of_lt_of_le hbK2 kD.size) fun hf => by rcases hf with hf | hf; exact hbF.2 hf; exact hbF.1 hf).trans (kD.block bK hbK2)
   have y3 : NB w3 p 7 sd ad ld cd ap np cp sk ak lk ck v (some ⟨bK, oK, none⟩) kn kc := hq.trans y
   have cK3 := (World.cell?_of_block (a := ⟨bK, oK, none⟩) hqK).trans cK
   replace hAO := hide (hat2.out _ _ (ao_back kD hAO))
   (try go_wp2_with fail)
   refine hK.out _ _ ?_ ?_
   ·(try dsimp only); exact ⟨y3.c0, y3.c6, y3.c7, cK3⟩
   clear hK K hHeld; intro hHeld
   (try simp only [Act.put, List.setIfInBounds_toArray, List.set_cons_zero, List.set_cons_succ])
   refine wpAnyH_take (i := 10) (oi := ⟨some 40, _, _, _, _, _⟩) (v := ?_) rfl (by kernel_rfl) (by kernel_rfl) (by kernel_rfl) (fun _ _ _ h => h) (Or.inl ⟨by rfl, ?_⟩) (by assumption) ?_
   rotate_left
   ·intro wq hSw; (try dsimp only at hSw); go_simp; (try with_reducible rfl)
   (try simp only [Act.put, List.setIfInBounds_toArray, List.set_cons_zero, List.set_cons_succ])
   refine wpAnyH_take (i := 11) (oi := ⟨some 41, _, _, _, _, _⟩) (v := ?_) rfl (by kernel_rfl) (by kernel_rfl) (by kernel_rfl) (fun _ _ _ h => h) (Or.inl ⟨by rfl, ?_⟩) (by assumption) ?_
   rotate_left
   ·intro wq hSw; (try dsimp only at hSw); go_simp; (try with_reducible rfl)
   (try simp only [Act.put, List.setIfInBounds_toArray, List.set_cons_zero, List.set_cons_succ])
   refine wpAnyH_ready (rs := [12]) (by kernel_rfl) (by simp) ?_
   refine AllReadyH.cons (o := ⟨some 4, _, _, _, _, _⟩) rfl (fun K hK => ?_) AllReadyH.nil
   go_simp
   refine hK.out _ _ ?_ ?_
   ·(try dsimp only); exact ⟨y3.c0, y3.c6, y3.c7, cK3⟩
   clear hK K hHeld; intro hHeld
   (try simp only [Act.put, List.setIfInBounds_toArray, List.set_cons_zero, List.set_cons_succ])
   refine wpAnyH_ready (rs := [13]) (by kernel_rfl) (by simp) ?_
   refine AllReadyH.cons (o := ⟨some 5, _, _, _, _, _⟩) rfl (fun K hK => ?_) AllReadyH.nil
   go_simp
   refine hK.out _ _ ?_ ?_
   ·(try dsimp only); exact ⟨y3.c0, y3.c6, y3.c7, cK3⟩
   clear hK K hHeld; intro hHeld
   (try simp only [Act.put, List.setIfInBounds_toArray, List.set_cons_zero, List.set_cons_succ])
   refine wpAnyH_done (by kernel_rfl) ?_ _
   go_wp2
   refine bodyPost_ret (results_tmp2 rfl _ _ _) rfl ?_
   exact hAO.out
  ·have hkl : 0 < kn := by have := hI.1; simp at this; omega
   rcases hI.2 with h0 | ⟨bK, oK, rfl, hbK, hcK⟩
   ·omega
   have cK := (hcK 0 (by simp)).1
   simp only [Nat.add_zero, List.getElem_cons_zero] at cK
   have hbF := hnF bK oK rfl hkl
   have hat2 : Hid (∀ e w', AO (w.alloc (.cells #[.int .i64 8, .bool sd, .slice ad ld cd, .slice ap np cp, .bool sk, .slice ak lk ck, .int .i64 v, .slice (some ⟨bK, oK, none⟩) kn kc] 39)) w' e pa pm nn 8 F (asked nn 8 s (.inr ⟨8, 0, [], 0, v, [x]⟩)) → AO w w' e pa pm nn 8 F (s, some (i : Int))) := hide fun e w' h => ao_back b0 (hput ▸ h)
   have hml := hG.mb.lt
   have hFl := hG.fl
   replace cK := (b0.cell (p := ⟨bK, oK, none⟩) hbK).trans cK
   have hbK2 : bK < (w.alloc (.cells #[.int .i64 8, .bool sd, .slice ad ld cd, .slice ap np cp, .bool sk, .slice ak lk ck, .int .i64 v, .slice (some ⟨bK, oK, none⟩) kn kc] 39)).heap.size := Nat.lt_of_lt_of_le hbK b0.size
   clear hd hP hk hI hG htab b0 hput hcK hnF
   go_enter Tryz.func15, Tryz.ntmps15
   go_wp2_with fail
   clear u0 u1 u2 u3 u4 u5 u6 u7
   generalize w.alloc (.cells #[.int .i64 8, .bool sd, .slice ad ld cd, .slice ap np cp, .bool sk, .slice ak lk ck, .int .i64 v, .slice (some ⟨bK, oK, none⟩) kn kc] 39) = w1 at *
   generalize hpe : w.heap.size = p at *
   have kD := grow_drew (Below.refl w1.heap.size w1)
   refine wp_region_held_drew (S := (fun w' => w'.cell? ⟨p, 0, none⟩ = some (.int .i64 8) ∧ w'.cell? ⟨p, 6, none⟩ = some (.int .i64 v) ∧ w'.cell? ⟨p, 7, none⟩ = some (.slice (some ⟨bK, oK, none⟩) kn kc) ∧ w'.cell? ⟨bK, oK, none⟩ = some (.int .i64 x))) (by kernel_rfl) (⟨(y.below kD).c0, (y.below kD).c6, (y.below kD).c7, (kD.cell (p := ⟨bK, oK, none⟩) hbK2).trans cK⟩) (fun hHeld => ?_)
   show wpAnyH _ _ _ _ _ 14 _ _ _
   refine wpAnyH_take (i := 0) (oi := ⟨some 30, _, _, _, _, _⟩) (v := ?_) rfl (by kernel_rfl) (by kernel_rfl) (by kernel_rfl) (fun _ _ _ h => h) (Or.inl ⟨by rfl, ?_⟩) (by assumption) ?_
   rotate_left
   ·intro wq hSw; (try dsimp only at hSw); go_simp; (try with_reducible rfl)
   (try simp only [Act.put, List.setIfInBounds_toArray, List.set_cons_zero, List.set_cons_succ])
   refine wpAnyH_take (i := 1) (oi := ⟨some 31, _, _, _, _, _⟩) (v := ?_) rfl (by kernel_rfl) (by kernel_rfl) (by kernel_rfl) (fun _ _ _ h => h) (Or.inl ⟨by rfl, ?_⟩) (by assumption) ?_
   rotate_left
   ·intro wq hSw; (try dsimp only at hSw); go_simp; (try with_reducible rfl)
   (try simp only [Act.put, List.setIfInBounds_toArray, List.set_cons_zero, List.set_cons_succ])
   refine wpAnyH_take (i := 2) (oi := ⟨some 32, _, _, _, _, _⟩) (v := ?_) rfl (by kernel_rfl) (by kernel_rfl) (by kernel_rfl) (fun _ _ _ h => h) (Or.inl ⟨by rfl, ?_⟩) (by assumption) ?_
   rotate_left
   ·intro wq hSw; (try dsimp only at hSw); go_simp; (try with_reducible rfl)
   (try simp only [Act.put, List.setIfInBounds_toArray, List.set_cons_zero, List.set_cons_succ])
   refine wpAnyH_take (i := 3) (oi := ⟨some 33, _, _, _, _, _⟩) (v := ?_) rfl (by kernel_rfl) (by kernel_rfl) (by kernel_rfl) (fun _ _ _ h => h) (Or.inl ⟨by rfl, ?_⟩) (by assumption) ?_
   rotate_left
   ·intro wq hSw; (try dsimp only at hSw); go_simp; (try with_reducible rfl)
   (try simp only [Act.put, List.setIfInBounds_toArray, List.set_cons_zero, List.set_cons_succ])
   refine wpAnyH_take (i := 4) (oi := ⟨some 34, _, _, _, _, _⟩) (v := ?_) rfl (by kernel_rfl) (by kernel_rfl) (by kernel_rfl) (fun _ _ _ h => h) (Or.inl ⟨by rfl, ?_⟩) (by assumption) ?_
   rotate_left
   ·intro wq hSw; (try dsimp only at hSw); go_simp; (try with_reducible rfl)
   (try simp only [Act.put, List.setIfInBounds_toArray, List.set_cons_zero, List.set_cons_succ])
   refine wpAnyH_take (i := 5) (oi := ⟨some 35, _, _, _, _, _⟩) (v := ?_) rfl (by kernel_rfl) (by kernel_rfl) (by kernel_rfl) (fun _ _ _ h => h) (Or.inl ⟨by rfl, ?_⟩) (by assumption) ?_
   rotate_left
   ·intro wq hSw; (try dsimp only at hSw); go_simp; (try with_reducible rfl)
   (try simp only [Act.put, List.setIfInBounds_toArray, List.set_cons_zero, List.set_cons_succ])
   refine wpAnyH_take (i := 6) (oi := ⟨some 36, _, _, _, _, _⟩) (v := ?_) rfl (by kernel_rfl) (by kernel_rfl) (by kernel_rfl) (fun _ _ _ h => h) (Or.inl ⟨by rfl, ?_⟩) (by assumption) ?_
   rotate_left
   ·intro wq hSw; (try dsimp only at hSw); go_simp; (try with_reducible rfl)
   (try simp only [Act.put, List.setIfInBounds_toArray, List.set_cons_zero, List.set_cons_succ])
   refine wpAnyH_take (i := 7) (oi := ⟨some 37, _, _, _, _, _⟩) (v := ?_) rfl (by kernel_rfl) (by kernel_rfl) (by kernel_rfl) (fun _ _ _ h => h) (Or.inl ⟨by rfl, ?_⟩) (by assumption) ?_
   rotate_left
   ·intro wq hSw; (try dsimp only at hSw); go_simp; (try with_reducible rfl)
   (try simp only [Act.put, List.setIfInBounds_toArray, List.set_cons_zero, List.set_cons_succ])
   refine wpAnyH_take (i := 8) (oi := ⟨some 38, _, _, _, _, _⟩) (v := ?_) rfl (by kernel_rfl) (by kernel_rfl) (by kernel_rfl) (fun _ _ _ h => h) (Or.inl ⟨by rfl, ?_⟩) (by assumption) ?_
   rotate_left
   ·intro wq hSw; (try dsimp only at hSw); go_simp; (try with_reducible rfl)
   (try simp only [Act.put, List.setIfInBounds_toArray, List.set_cons_zero, List.set_cons_succ])
   refine wpAnyH_ready (rs := [9]) (by kernel_rfl) (by simp) ?_
   refine AllReadyH.cons (o := ⟨some 39, _, _, _, _, _⟩) rfl (fun K hK => ?_) AllReadyH.nil
   go_simp
   refine Calls.mono (bind_ao (kd := 8) (.inr rfl) (hG1.out.below kD) (by unfold I64; omega) (show 0 ≤ x ∧ x < (s.L.length : Int) by omega) (ht1.out.below kD)) ?_
   intro e w3 hAO
   obtain ⟨ra, rb, rfl⟩ : ∃ ra rb : Int, e = .returned (.tuple #[.int .i64 ra, .int .i64 rb]) := by obtain ⟨x, er, e1, _⟩ := hAO; exact ⟨x, er, e1⟩
   have hB3 : ButF (fun b => b = pm ∨ F b) w1.drew w3 := by obtain ⟨_, _, _, _, _, _, _, _, h9⟩ := hAO; exact h9
   have hq : w3.heap[p]? = w1.heap[p]? := (hB3.block p (Nat.lt_of_lt_of_le y.lt kD.size) fun hf => by rcases hf with rfl | hf; omega; have := hFl p hf; omega).trans (kD.block p y.lt)
   have hqK : w3.heap[bK]? = w1.heap[bK]? := (hB3.block bK (Nat.lt_of_lt_of_le hbK2 kD.size) fun hf => by rcases hf with hf | hf; exact hbF.2 hf; exact hbF.1 hf).trans (kD.block bK hbK2)
   have y3 : NB w3 p 8 sd ad ld cd ap np cp sk ak lk ck v (some ⟨bK, oK, none⟩) kn kc := hq.trans y
   have cK3 := (World.cell?_of_block (a := ⟨bK, oK, none⟩) hqK).trans cK
   replace hAO := hide (hat2.out _ _ (ao_back kD hAO))
   (try go_wp2_with fail)
   refine hK.out _ _ ?_ ?_
   ·(try dsimp only); exact ⟨y3.c0, y3.c6, y3.c7, cK3⟩
   clear hK K hHeld; intro hHeld
   (try simp only [Act.put, List.setIfInBounds_toArray, List.set_cons_zero, List.set_cons_succ])
   refine wpAnyH_take (i := 10) (oi := ⟨some 40, _, _, _, _, _⟩) (v := ?_) rfl (by kernel_rfl) (by kernel_rfl) (by kernel_rfl) (fun _ _ _ h => h) (Or.inl ⟨by rfl, ?_⟩) (by assumption) ?_
   rotate_left
   ·intro wq hSw; (try dsimp only at hSw); go_simp; (try with_reducible rfl)
   (try simp only [Act.put, List.setIfInBounds_toArray, List.set_cons_zero, List.set_cons_succ])
   refine wpAnyH_take (i := 11) (oi := ⟨some 41, _, _, _, _, _⟩) (v := ?_) rfl (by kernel_rfl) (by kernel_rfl) (by kernel_rfl) (fun _ _ _ h => h) (Or.inl ⟨by rfl, ?_⟩) (by assumption) ?_
   rotate_left
   ·intro wq hSw; (try dsimp only at hSw); go_simp; (try with_reducible rfl)
   (try simp only [Act.put, List.setIfInBounds_toArray, List.set_cons_zero, List.set_cons_succ])
   refine wpAnyH_ready (rs := [12]) (by kernel_rfl) (by simp) ?_
   refine AllReadyH.cons (o := ⟨some 4, _, _, _, _, _⟩) rfl (fun K hK => ?_) AllReadyH.nil
   go_simp
   refine hK.out _ _ ?_ ?_
   ·(try dsimp only); exact ⟨y3.c0, y3.c6, y3.c7, cK3⟩
   clear hK K hHeld; intro hHeld
   (try simp only [Act.put, List.setIfInBounds_toArray, List.set_cons_zero, List.set_cons_succ])
   refine wpAnyH_ready (rs := [13]) (by kernel_rfl) (by simp) ?_
   refine AllReadyH.cons (o := ⟨some 5, _, _, _, _, _⟩) rfl (fun K hK => ?_) AllReadyH.nil
   go_simp
   refine hK.out _ _ ?_ ?_
   ·(try dsimp only); exact ⟨y3.c0, y3.c6, y3.c7, cK3⟩
   clear hK K hHeld; intro hHeld
   (try simp only [Act.put, List.setIfInBounds_toArray, List.set_cons_zero, List.set_cons_succ])
   refine wpAnyH_done (by kernel_rfl) ?_ _
   go_wp2
   refine bodyPost_ret (results_tmp2 rfl _ _ _) rfl ?_
   exact hAO.out
end Nt
end Go.Proofs.YtjdghmkolkidpaaGreatDoor

namespace Go.Proofs.YtjdghmkolkidpaaGreatDoor
open Go.RowKit Go.Sort Go.Shelf
open Tm At
open Nt

theorem ml_sm {w : World} {ad : Option Addr} {n : Nat} {R : List Mk} {B : Nat} (h : ML w ad n R B) : ∀ m ∈ R, Sm m := by
 intro m hm
 obtain ⟨i, hi, rfl⟩ := List.getElem_of_mem hm
 rcases h.2 with h0 | ⟨b, off, _, _, h2⟩
 ·have := h.1
  omega
 ·obtain ⟨sd, ad, ld, cd, ap, np, cp, sk, ak, lk, ck, ka, kn, kc, _, _, _, hP, hnp, _⟩ := h2 i hi
  have h3 : (R[i].xp).length = np := hP.1
  have h4 := std_len (std_lays R[i].xp) fun v => csum_nzl R[i].xp v
  unfold Sm
  omega
theorem gd_kids {kk : Int} {i : Nat} {n : Nd} (h : Gd kk i n) : n.kids.length ≤ 5 ∧ (∀ x ∈ n.kids, 0 ≤ x ∧ x < (i : Int)) ∧ n.kids.Pairwise (· < ·) := by
 rcases h with ⟨f, _, rfl, _⟩ | ⟨kd, kids, _, rfl, _, h5, hr, hl⟩ | ⟨kd, v, x, _, rfl, _, _, h0, h1⟩
 ·exact ⟨by simp, by simp, by simp⟩
 ·exact ⟨h5, hl, hr⟩
 ·exact ⟨by simp, fun y hy => by obtain rfl := List.mem_singleton.1 hy; exact ⟨h0, h1⟩, by simp⟩
set_option maxRecDepth 100000 in
set_option maxHeartbeats 6400000 in
theorem arenaOnce_walk {w0 : World} {ad1 : Option Addr} {n1 c1 : Nat} {R1 : List Mk} {B : Nat} (h1 : ML w0 ad1 n1 R1 B) (hn1 : n1 ≤ 1048576) (hB : B ≤ 1048576) (htab : Tab w0) :
  Calls Tryz.prog 3 #[.slice ad1 n1 c1] w0 fun e w' => e = .returned (.bool true) ∧ Below w0.heap.size w0 w' := by
 have hS := ml_sm h1
 go_enter Tryz.func3, Tryz.ntmps3
 go_wp2_with fail
 refine (awake8_n htab).mono ?_
 rintro e v1 ⟨rfl, k1⟩
 have ht1 := hide (htab.below k1)
 go_wp2_with fail
 refine (new_ag ht1.out).mono ?_
 rintro e v2 ⟨pa, pm, Fa, rfl, hGa, hFa, hpm, k2⟩
 have k12 := hide (grow_step k2 k1)
 have s1 := k1.size
 replace hGa := hide hGa
 have iA : Hid (∀ b, Fa b → w0.heap.size ≤ b) := hide fun b hb => by have := hFa b hb; omega
 replace hpm : w0.heap.size ≤ pm := by omega
 have hp2 := hGa.out.mb.lt
 clear k1 k2 ht1 hFa
 go_wp2_with fail
 refine (built_n (nn := 2000) (kk := 8) (s := st0) hGa.out iA.out hpm (by decide) h1 hn1 hB k12.out htab).mono ?_
 rintro e v3 ⟨ax, cx, F3, rfl, hIx, hfx, hG3, hF3, hB3⟩
 generalize hra : runW 2000 8 (st0, [0, 1]) (R1.take 40) = ra at *
 have hgs := run_gs (nn := 2000) (kk := 8) (R1.take 40) (st0_gs 8) (st0_in 0 0) fun m hm => hS m (List.mem_of_mem_take hm)
 have huq := run_uq (nn := 2000) (kk := 8) (R1.take 40) (ids := [0, 1]) st0_uq
 have hcn := run_count 2000 8 (R1.take 40) st0 [0, 1]
 have hrl := run_len 2000 8 (R1.take 40) (st0, [0, 1])
 have h2L : 2 ≤ ra.1.L.length := by
  obtain ⟨⟨t, ht⟩, _⟩ := run_le 2000 8 (R1.take 40) st0 [0, 1]
  rw [hra] at ht
  rw [ht]
  simp [st0]
 have hag := run_again (nn := 2000) (kk := 8) (R1.take 40) (s := st0) (F := ra.1) (ids := [0, 1]) (by rw [← hra]; exact huq) (by rw [hra]; exact Le.refl _)
 rw [hra] at hgs hcn hrl hag
 have hlx : ra.2.length ≤ 42 := by rw [List.length_take] at hrl; simp at hrl; omega
 have hLc : ra.1.c = (ra.1.L.length : Int) - 2 := by simp [st0] at hcn; omega
 have k13 := hide (k12.out.trans (hB3.below (fun b hb => hb.elim (fun e => by omega) (iA.out b)) k12.out.size))
 have s2 := k12.out.size
 have i3 : Hid (∀ b, F3 b → w0.heap.size ≤ b) := hide fun b hb => (hF3 b hb).elim (iA.out b) fun h => by omega
 have hLn : (ra.1.L.length : Int) ≤ 2002 := by have h9 := hG3.ln; have h8 := hG3.cn; omega
 replace hG3 := hide hG3
 replace hIx := hide hIx
 replace hfx := hide hfx
 clear hGa hF3 hB3 hrl hcn huq hra k12 hS
 have l3 := hide hG3.out.ax.len
 go_wp2_with fail
 refine l3.out.mono ?_
 rintro e w9 ⟨rfl, rfl⟩
 clear l3
 go_wp2_with fail
 refine (built_n (nn := 2000) (kk := 8) (s := ra.1) hG3.out i3.out hpm h2L h1 hn1 hB k13.out htab).mono ?_
 rintro e v4 ⟨ay, cy, F4, rfl, hIy, hfy, hG4, hF4, hB4⟩
 rw [hag] at hIy hfy hG4 ⊢
 dsimp only at hIy hfy hG4 ⊢
 have k14 := hide (k13.out.trans (hB4.below (fun b hb => hb.elim (fun e => by omega) (i3.out b)) k13.out.size))
 have s3 := k13.out.size
 have i4 : Hid (∀ b, F4 b → w0.heap.size ≤ b) := hide fun b hb => (hF4 b hb).elim (i3.out b) fun h => by omega
 have hIx4 := hide (hIx.out.but hfx.out hB4 fun b hb _ hf => by rcases hf with rfl | hf; have := hb.1; omega; exact hb.2 hf)
 have l4 := hide hG4.ax.len
 have m4 := hide (meter8_n hG4.ax)
 have sp4 := hide (spent_n hG4.mb hG4.c0 hG4.cn hG4.e0 hG4.e2)
 replace hG4 := hide hG4
 replace hIy := hide hIy
 clear hF4 hB4 hG3 k13 hIx hfx hfy i3 hag
 go_wp2_with fail
 refine l4.out.mono ?_
 rintro e w10 ⟨rfl, rfl⟩
 go_wp2_with fail
 refine m4.out.mono ?_
 rintro e w11 ⟨rfl, rfl⟩
 go_wp2_with fail
 refine sp4.out.mono ?_
 rintro e v5 ⟨rfl, k5⟩
 rw [hLc]
 have k15 := hide (grow_step k5 k14.out)
 have hG5 := hide (hG4.out.below k5)
 replace hIx4 := hide (hIx4.out.below k5)
 replace hIy := hide (hIy.out.below k5)
 clear k5 l4 m4 sp4 hG4 k14
 go_wp2_with fail
 refine (ints_n hIx4.out hIy.out (by omega)).mono ?_
 rintro e v6 ⟨rfl, k6⟩
 rw [decide_eq_true rfl]
 have k16 := hide (grow_step k6 k15.out)
 have hG6 := hide (hG5.out.below k6)
 clear k6 hIx4 hIy k15 hG5
 go_wp2_with fail
 go_loopw [10] (fun i wr => ∃ (t : Nat) (F' : Nat → Prop), 2 ≤ t ∧ t ≤ ra.1.L.length ∧ i = .int .i64 t ∧ Hid (AG wr pa pm 2000 8 ra.1 F') ∧ Hid (∀ b, F' b → w0.heap.size ≤ b) ∧ Hid (Below w0.heap.size w0 wr)) (fun i _ => ra.1.L.length - (intOf i).toNat)
 case atStart => exact ⟨2, F4, Nat.le_refl _, h2L, rfl, hG6, i4, k16⟩
 case round =>
  obtain ⟨t, F7, ht2, htL, rfl, hG7, i7, k17⟩ := hrel
  by_cases htn : t < ra.1.L.length
  ·have hgt : ra.1.L[t]? = some ra.1.L[t] := List.getElem?_eq_getElem htn
   have hgd := hgs.1 t _ ht2 hgt
   have hnd := hide (node8_n hG7.out.ax htn (by omega))
   generalize ra.1.L[t] = nd at *
   go_wp2_with fail
   refine hnd.out.mono ?_
   rintro e v8 ⟨sd, ad, ld, cd, ap, np, cp, sk, ak, lk, ck, ka, kn, kc, rfl, hzd, hPn, hzk, hIk, hnk, k8⟩
   clear hnd
   have hflr := hG7.out.fl
   have hmr := hG7.out.mb.lt
   have hG8 := hide (hG7.out.below k8)
   have k18 := hide (grow_step k8 k17.out)
   have s8 := k8.size
   clear hG7 k8 k17
   go_wp2_with fail
   obtain ⟨hk5, hklt, hkr⟩ := gd_kids hgd
   have y9 := NB.new v8 nd.kind sd ad ld cd ap np cp sk ak lk ck nd.var ka kn kc
   have b9 := below_alloc v8 (.cells #[.int .i64 nd.kind, .bool sd, .slice ad ld cd, .slice ap np cp, .bool sk, .slice ak lk ck, .int .i64 nd.var, .slice ka kn kc] 39)
   have hG9 := hide (hG8.out.below b9)
   have k19 := hide (grow_step b9 k18.out)
   replace hzd := hzd.below b9
   replace hPn := hPn.below b9
   replace hzk := hzk.below b9
   replace hIk := hIk.below b9
   clear b9 hG8 k18
   generalize v8.alloc (.cells #[.int .i64 nd.kind, .bool sd, .slice ad ld cd, .slice ap np cp, .bool sk, .slice ak lk ck, .int .i64 nd.var, .slice ka kn kc] 39) = w9 at *
   generalize v8.heap.size = p at *
   have hkl := hIk.1
   have z7 := y9.c7
   go_loopw [13] (fun k wr => ∃ (q r : Nat), q ≤ kn ∧ k = .int .i64 q ∧ wr = w9.drewN r) (fun k _ => kn - (intOf k).toNat)
   case atStart => exact ⟨0, 0, Nat.zero_le _, rfl, rfl⟩
   case round =>
    obtain ⟨q, r, hqk, rfl, rfl⟩ := hrel
    by_cases hqn : q < kn
    ·rcases hIk.2 with h0 | ⟨bK, oK, rfl, hbK, hcK⟩
     ·omega
     have hql : q < nd.kids.length := by omega
     have cq := (hcK q hql).1
     have hlt := (hklt _ (List.getElem_mem hql)).2
     have hge : (decide ((t : Int) ≤ nd.kids[q]'hql)) = false := by simp; omega
     by_cases hq0 : q = 0
     ·subst hq0
      simp only [Nat.add_zero] at cq
      generalize nd.kids[0]'hql = z at *
      clear hcK hklt hkr
      go_wp2_with fail
      go_quiet (fail)
      go_wp2_with fail
      exact ⟨⟨1, r + nq, by omega, by go_num, rfl⟩, by simp [intOf]; omega⟩
     ·obtain ⟨q1, hsub⟩ : ∃ q1 : Nat, (q : Int) - 1 = (q1 : Int) := ⟨q - 1, by omega⟩
      have hql1 : q1 < nd.kids.length := by omega
      have cq1 := (hcK q1 hql1).1
      have hqpos : 0 < q := by omega
      have hq1k : q1 < kn := by omega
      have hkn5 : kn ≤ 5 := by omega
      have hwr : IntKind.i64.wrap (q1 : Int) = (q1 : Int) := by rw [IntKind.wrap_i64]; omega
      have hqpos2 : decide ((0 : Int) < (q : Int)) = true := by simp; omega
      have hless : nd.kids[q1]'hql1 < nd.kids[q]'hql := List.pairwise_iff_getElem.1 hkr q1 q hql1 hql (by omega)
      have hge2 : (decide (nd.kids[q]'hql ≤ nd.kids[q1]'hql1)) = false := by simp; omega
      generalize nd.kids[q]'hql = z at *
      generalize nd.kids[q1]'hql1 = z1 at *
      clear hcK hklt hkr
      go_wp2_with fail
      go_quiet (fail)
      go_wp2_with fail
      exact ⟨⟨q + 1, r + nq, by omega, by go_num, rfl⟩, by simp [intOf]; omega⟩
    ·obtain rfl : q = kn := by omega
     have kD := below_drewN w9.heap.size w9 r
     have hpmF : InF (fun b => ¬ F7 b ∧ b ≠ pm) ka q := fun b off e h0 => by
      have h9 := hnk b off e h0
      exact ⟨fun hf => by have := hflr b hf; omega, by omega⟩
     have hre := hide (remade_n (cd := cd) (cp := cp) (ck := ck) (kc := kc) (hG9.out.below kD) hgt hgd (hzd.below kD) (hPn.below kD) (hzk.below kD) (hIk.below kD) hpmF (htab.below (grow_step kD k19.out)))
     have k110 := hide (grow_step kD k19.out)
     have z0 := y9.c0
     have z1 := y9.c1
     have z2 := y9.c2
     have z3 := y9.c3
     have z4 := y9.c4
     have z5 := y9.c5
     have z6 := y9.c6
     clear hIk hzd hPn hzk hG9 k19 hklt hkr hk5
     go_wp2_with fail
     refine hre.out.mono ?_
     clear z0 z1 z2 z3 z4 z5 z6 z7
     rintro e v12 ⟨x3, e3, rfl, -, hyes, F12, hG12, hF12, hB12⟩
     obtain ⟨rfl, rfl⟩ := hyes _ rfl
     have k112 := hide (k110.out.trans (hB12.below (fun b hb => hb.elim (fun e => by omega) (i7.out b)) k110.out.size))
     have s110 := k110.out.size
     have i12 : Hid (∀ b, F12 b → w0.heap.size ≤ b) := hide fun b hb => (hF12 b hb).elim (i7.out b) fun h => Nat.le_trans s110 h
     replace hG12 := hide hG12
     clear hyes hF12 hB12 hre k110
     go_wp2
     exact ⟨⟨t + 1, F12, by omega, by omega, by go_num, hG12, i12, k112⟩, by simp [intOf]; omega⟩
  ·obtain rfl : t = ra.1.L.length := by omega
   clear hG7 i7
   go_wp2
   go_ret
   exact ⟨rfl, k17.out⟩
end Go.Proofs.YtjdghmkolkidpaaGreatDoor
