/-
 Layer 5: a list of values with one more ahead of it.
-/
import Derived.Test.YtagjfhipjbpoiaaP17
namespace Go.Proofs.Ytagjfhipjbpoiaa
open Go.RowKit Go.Sort Go.Shelf
open Tm

def Raw.okm (w : World) (B : Nat) (x : Raw) : Prop := Zm w x.s x.a x.l x.c x.z ∧ x.l ≤ B ∧ I64 x.v
theorem pl_raw {w : World} {b off : Nat} {ps : List (Int × Int)} {B : Nat} (h : PL w b off ps B) : ∃ rs : List Raw, rs.map Raw.p = ps ∧ (∀ x ∈ rs, x.okm w B) ∧ ∀ j u, (flat rs)[j]? = some u → w.cell? ⟨b, off + j, none⟩ = some u := by
 have hex : ∀ i, ∃ x : Raw, (hi : i < ps.length) → x.p = ps[i] ∧ x.okm w B ∧ w.cell? ⟨b, off + i * 3, none⟩ = some (.int .i64 x.v) ∧ w.cell? ⟨b, off + i * 3 + 1, none⟩ = some (.bool x.s) ∧ w.cell? ⟨b, off + i * 3 + 2, none⟩ = some (.slice x.a x.l x.c) := by
  intro i
  by_cases hi : i < ps.length
  ·obtain ⟨s, a, l, c, h0, h1, h2, h3, h4, h5⟩ := h.2 i hi
   exact ⟨⟨ps[i].1, s, a, l, c, ps[i].2⟩, fun _ => ⟨rfl, ⟨h3, h4, h5⟩, h0, h1, h2⟩⟩
  ·exact ⟨⟨0, false, none, 0, 0, 0⟩, fun h => absurd h hi⟩
 obtain ⟨Q, hQ⟩ := Classical.skolem.1 hex
 refine ⟨(List.range ps.length).map Q, ?_, ?_, ?_⟩
 ·apply List.ext_getElem (by simp)
  intro i h1 h2
  simp only [List.getElem_map, List.getElem_range]
  exact (hQ i (by simpa using h2)).1
 ·intro x hx
  obtain ⟨i, hi, rfl⟩ := List.mem_map.1 hx
  exact (hQ i (List.mem_range.1 hi)).2.1
 ·intro j u hu
  have hlen := flat_length ((List.range ps.length).map Q)
  have hj : j < (flat ((List.range ps.length).map Q)).length := (List.getElem?_eq_some_iff.1 hu).1
  simp only [List.length_map, List.length_range] at hlen
  have hi : j / 3 < ((List.range ps.length).map Q).length := by simp; omega
  have hg := flat_get ((List.range ps.length).map Q) (j / 3) (j % 3) hi (Nat.mod_lt _ (by decide))
  rw [show j / 3 * 3 + j % 3 = j from by omega, hu] at hg
  simp only [List.getElem_map, List.getElem_range] at hg
  obtain ⟨_, _, h0, h1, h2⟩ := hQ (j / 3) (by simpa using hi)
  have hm : j % 3 = 0 ∨ j % 3 = 1 ∨ j % 3 = 2 := by omega
  rcases hm with e | e | e
  ·rw [e] at hg
   simp [Raw.enc] at hg
   subst hg
   rw [show off + j = off + j / 3 * 3 from by omega]
   exact h0
  ·rw [e] at hg
   simp [Raw.enc] at hg
   subst hg
   rw [show off + j = off + j / 3 * 3 + 1 from by omega]
   exact h1
  ·rw [e] at hg
   simp [Raw.enc] at hg
   subst hg
   rw [show off + j = off + j / 3 * 3 + 2 from by omega]
   exact h2
theorem row_pr {w : World} {base n : Nat} {e : TypeId} {v : Value} {rs : List Raw} {B : Nat} (h : w.ownsRow base e 3 v n (flat rs)) (hok : ∀ x ∈ rs, x.okm w B) : ∃ ad cap, v = .slice ad n cap ∧ Pr w ad n (rs.map Raw.p) B := by
 have hl : rs.length = n := by have := h.1; rw [flat_length] at this; omega
 rcases h.2 with ⟨rfl, rfl⟩ | ⟨g, cap, cur, rfl, _, hcur, _, _, _, htake⟩
 ·exact ⟨none, 0, rfl, by simpa using hl, .inl rfl⟩
 ·refine ⟨_, cap, rfl, by simpa using hl, .inr ⟨g, 0, rfl, (Array.getElem?_eq_some_iff.1 hcur).1, fun i hi => ?_⟩⟩
  have hi' : i < rs.length := by simpa using hi
  have hc : ∀ c, c < 3 → w.cell? ⟨g, 0 + i * 3 + c, none⟩ = (rs[i]).enc[c]? := by
   intro c hc
   have hg := flat_get rs i c hi' hc
   rw [← htake, List.getElem?_take, if_pos (by omega)] at hg
   rw [← hg, Nat.zero_add]
   exact (cell_of_row w g (i * 3 + c) _ _ (0, 0) hcur).trans (by simp)
  obtain ⟨hz, hlx, hv⟩ := hok rs[i] (List.getElem_mem hi')
  rw [List.getElem_map]
  exact ⟨_, _, _, _, by simpa [Raw.enc, Raw.p] using hc 0 (by decide), by simpa [Raw.enc] using hc 1 (by decide), by simpa [Raw.enc] using hc 2 (by decide), hz, hlx, hv⟩

theorem infoV : (Try.prog.info? 57).map (fun i => (i.zero, i.size, i.bytes)) = some (some (.agg #[.int .i64 0, .bool false, .slice none 0 0]), 3, 40) := by kernel_rfl
set_option maxRecDepth 100000 in
theorem append_vals0 {X : World} {v : Int} {s : Bool} {a : Option Addr} {l c : Nat} {z : Int} {ad : Option Addr} {n cp : Nat} {vs : List (Int × Int)} {B : Nat} (hz : Zm X s a l c z) (hl : l ≤ B) (hv : I64 v) (hV : Pr X ad n vs B) (hn : n ≤ 1073741824) (hcp : ad = none → n = 0 ∧ cp = 0) (ty : TypeId) :
  ∃ v' w', (Builtin.append_ #[48, 48] ty #[.slice (some ⟨X.heap.size, 0, none⟩) 1 1, .slice ad n cp]).run Try.prog (X.alloc (.cells #[.int .i64 v, .bool s, .slice a l c] 57)) = .ok v' w' ∧ Below X.heap.size X w' ∧ ∃ ad' cp', v' = .slice ad' (1 + n) cp' ∧ Pr w' ad' (1 + n) ((v, z) :: vs) B := by
 obtain ⟨i0, hi, hz0, hz1, hz2⟩ := info_parts infoV
 have hka := below_alloc X (.cells #[.int .i64 v, .bool s, .slice a l c] 57)
 have hlit := World.ownsRow_lit (base := X.heap.size) (e := 57) (size := 3) X #[.int .i64 v, .bool s, .slice a l c] 1 (Nat.le_refl _) (by unfold maxLen; decide) (by simp)
 have hfin : ∀ (rs : List Raw), rs.map Raw.p = vs → (∀ x ∈ rs, x.okm X B) → ∀ v' w', w'.ownsRow X.heap.size 57 3 v' (1 + n) (([.int .i64 v, .bool s, .slice a l c] : List Value) ++ flat rs) → Below X.heap.size X w' → ∃ ad' cp', v' = .slice ad' (1 + n) cp' ∧ Pr w' ad' (1 + n) ((v, z) :: vs) B := by
  intro rs hrs hok v' w' hrow hb
  have e : (([.int .i64 v, .bool s, .slice a l c] : List Value) ++ flat rs) = flat (⟨v, s, a, l, c, z⟩ :: rs) := by simp [flat, Raw.enc]
  rw [e] at hrow
  obtain ⟨ad', cp', h1, h2⟩ := row_pr (B := B) hrow (fun x hx => by
   rcases List.mem_cons.1 hx with rfl | hx
   ·exact ⟨hz.below hb, hl, hv⟩
   ·obtain ⟨g1, g2, g3⟩ := hok x hx
    exact ⟨g1.below hb, g2, g3⟩)
  exact ⟨ad', cp', h1, by rw [List.map_cons, hrs] at h2; exact h2⟩
 cases ad with
 | none =>
  obtain ⟨rfl, rfl⟩ := hcp rfl
  have hvs : vs = [] := List.eq_nil_of_length_eq_zero hV.1
  subst hvs
  have hr := run_append_owned_none (P := Try.prog) (X.alloc (.cells #[.int .i64 v, .bool s, .slice a l c] 57)) X.heap.size 48 ty 57 i0 3 Try.underlying48 hi _ 1 _ hlit
  exact ⟨_, _, hr, hka, hfin [] rfl (fun x hx => by cases hx) _ _ (by simpa [flat] using hlit) hka⟩
 | some ad =>
  have hraw : ∃ rs : List Raw, rs.map Raw.p = vs ∧ (∀ x ∈ rs, x.okm X B) ∧ (flat rs).length = n * 3 ∧ ∀ j u, (flat rs)[j]? = some u → (X.alloc (.cells #[.int .i64 v, .bool s, .slice a l c] 57)).cell? (ad.add j) = some u := by
   rcases hV.2 with h0 | ⟨b, off, e, hPL⟩
   ·have hvs : vs = [] := List.eq_nil_of_length_eq_zero (by rw [hV.1]; exact h0)
    subst hvs
    exact ⟨[], rfl, fun x hx => (by cases hx), by rw [h0]; rfl, fun j u hu => by simp [flat] at hu⟩
   ·cases e
    obtain ⟨rs, h1, h2, h3⟩ := pl_raw hPL
    refine ⟨rs, h1, h2, by rw [flat_length, ← hV.1, ← h1, List.length_map], fun j u hu => ?_⟩
    rw [Addr.add_lit]
    exact (hka.cell (p := ⟨b, off + j, none⟩) hPL.1).trans (h3 j u hu)
  obtain ⟨rs, h1, h2, h3, h4⟩ := hraw
  obtain ⟨v', w', hr, hrow, hgr, -⟩ := run_append_own (P := Try.prog) (X.alloc (.cells #[.int .i64 v, .bool s, .slice a l c] 57)) X.heap.size 48 ty 57 i0 _ 3 40 Try.underlying48 hi hz0 hz1 hz2 rfl (by decide) _ 1 _ hlit ad n cp (flat rs) h3 h4 (fun u hu => by
   obtain ⟨x, _, hx⟩ := List.mem_flatMap.1 hu
   exact v3_one _ _ _ _ _ u hx) (by unfold maxLen; omega) (by omega) (by simp)
  have hb : Below X.heap.size X w' := hka.grown hgr hka.size (fun k e => by cases e; exact Nat.le_refl _)
  exact ⟨v', w', hr, hb, hfin rs h1 h2 v' w' hrow hb⟩
theorem append_vals {X : World} {q : Nat} {v : Int} {s : Bool} {a : Option Addr} {l c : Nat} {z : Int} {ad : Option Addr} {n cp : Nat} {vs : List (Int × Int)} {B : Nat} (hq : X.heap.size = q) (hz : Zm X s a l c z) (hl : l ≤ B) (hv : I64 v) (hV : Pr X ad n vs B) (hn : n ≤ 1073741824) (hcp : ad = none → n = 0 ∧ cp = 0) (ty : TypeId) :
  ∃ v' w', (Builtin.append_ #[48, 48] ty #[.slice (some ⟨q, 0, none⟩) 1 1, .slice ad n cp]).run Try.prog (X.alloc (.cells #[.int .i64 v, .bool s, .slice a l c] 57)) = .ok v' w' ∧ Below X.heap.size X w' ∧ ∃ ad' cp', v' = .slice ad' (1 + n) cp' ∧ Pr w' ad' (1 + n) ((v, z) :: vs) B := by
 subst hq
 exact append_vals0 hz hl hv hV hn hcp ty
theorem fv_cons_ne {p : Int × Int} {vs : List (Int × Int)} {u : Int} (h : p.1 ≠ u) : fv (p :: vs) u = fv vs u := by simp [fv, h]
theorem tot_put {ps us vs rs : List (Int × Int)} {v x : Int} (h1 : Tot us vs) (h2 : Tot ps ((v, x) :: vs)) (h : ∀ u, csum rs u = csum (wo v ps ++ scl (csum ps v) us) u) : Tot rs vs := fun u hc => by
 rw [h, csum_append, csum_wo, csum_scl] at hc
 by_cases e : csum us u = 0
 ·rw [e, Int.mul_zero, Int.add_zero] at hc
  by_cases eu : u = v
  ·rw [if_pos eu] at hc; exact absurd rfl hc
  ·rw [if_neg eu] at hc
   have := h2 u hc
   rwa [fv_cons_ne (fun h => eu h.symm)] at this
 ·exact h1 u e
theorem ev_put {ps us vs rs : List (Int × Int)} {v k k2 : Int} (h : ∀ u, csum rs u = csum (wo v ps ++ scl (csum ps v) us) u) :
  k + csum ps v * k2 + ev rs (val1 vs) = k + ev ps (val1 ((v, k2 + ev us (val1 vs)) :: vs)) := by
 rw [ev_congr h, ev_append, ev_scl, ev_split v ps]
 have e1 : val1 ((v, k2 + ev us (val1 vs)) :: vs) v = k2 + ev us (val1 vs) := by simp [val1, fv]
 have e2 : ev (wo v ps) (val1 ((v, k2 + ev us (val1 vs)) :: vs)) = ev (wo v ps) (val1 vs) := ev_congr_on fun u hu => by
  have : u ≠ v := fun e => hu (by rw [csum_wo, if_pos e])
  unfold val1
  rw [fv_cons_ne (fun h => this h.symm)]
 rw [e1, e2, Int.mul_add]
 omega
theorem zn_len0 {w : World} {s : Bool} {a : Option Addr} {l c : Nat} {z : Int} (h : Zn w s a l c z) (hz : z = 0) : l = 0 := by
 obtain ⟨n, h1, h2, _⟩ := h
 refine h1.len.1 ?_
 cases s <;> simp [sg] at h2 <;> omega
end Go.Proofs.Ytagjfhipjbpoiaa
