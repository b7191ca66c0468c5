/-
 Several texts in one: VI,VJ,LSimpNil.
-/
import Derived.Test.YtghboandiekiiaaGreatDoorSnl48
import Derived.Test.YtghboandiekiiaaGreatDoorSnl40
import Derived.Test.YtghboandiekiiaaGreatDoorSnl22
set_option maxRecDepth 100000
set_option maxHeartbeats 3200000
namespace Go.Proofs.YtghboandiekiiaaGreatDoor
open Go.RowKit Go.Sort Go.Shelf
open Tm At
namespace Nt

def nx1 : Nd:=⟨2,0,[(0,1)],0,0,[]⟩
def nx2 : Nd:=⟨2,0,[(0, -1)],1,0,[]⟩
def sx1 : St:=⟨[cst 0,cst 1,nx1],1,0⟩
def sx2 : St:=⟨[cst 0,cst 1,nx1,nx2],2,0⟩
theorem form_v0 : formA 2 0 (nz (lays [] [(0,1)])) 0 = .inl ⟨2,0,[(0,1)],0⟩:=by rfl
theorem putE_made {nn kk : Int} {s : St} {n : Nd} (h : ∀ i : Nat,s.L[i]? ≠ some n) (he : s.er = 0) (hl : ((nums n).any fun z => decide (kk < (lim z : Int))) = false) (hc : 1≤nn - s.c) : putE nn kk s n = (⟨s.L ++ [n],s.c + 1,0⟩,(s.L.length : Int),0):=by
 have h7 : mstep nn kk s.c s.er (nums n) = (0,s.c + 1,0):=by
  unfold mstep
  rw [if_neg (by simp [he]),if_neg (by rw [hl]; simp),if_neg o_m]
 unfold putE
 rw [if_neg (spot_no (fun ⟨i,hi⟩ => h i hi)),h7,if_pos rfl]
theorem not_in2 {L : List Nd} {n : Nd} (h : ∀ x ∈ L,x ≠ n) (i : Nat) : L[i]? ≠ some n:=fun hi => h n (List.mem_of_getElem? hi) rfl
theorem lim_m1 : lim (-1) = 1:=by
 have:=lim_neg 1
 rw [lim_1] at this
 exact this
theorem act_v0 : actA 2000 8 st0 2 0 [(0,1)] 0 = (sx1,2,0):=by
 unfold actA
 rw [form_v0]
 show putE 2000 8 st0 nx1 = _
 rw [putE_made (not_in (by simp [st0,cst,nx1])) rfl (by simp [nums,nx1,lim_0,lim_1]) (by decide)]
 rfl
theorem put_v0 : putE 2000 8 sx1 nx2 = (sx2,3,0):=by
 rw [putE_made (not_in2 (by simp [sx1,cst,nx1,nx2])) rfl (by simp [nums,nx2,lim_0,lim_1,lim_m1]) (by decide)]
 rfl
theorem fit_v0 : Fit ⟨2,0,[(0,1)],0⟩:=form_fit (ps:=[(0,1)]) form_v0
theorem gv_sx1 : Gv 8 sx1.L:=by
 have h:=(kp_put (nn:=2000) (kk:=8) (s:=st0) (n:=nx1) (gv_st0 8) (.inl ⟨_,fit_v0,rfl,by simp⟩)).gv
 rw [putE_made (not_in (by simp [st0,cst,nx1])) rfl (by simp [nums,nx1,lim_0,lim_1]) (by decide)] at h
 exact h
theorem neg_sx1 {r : St × Int × Int} (h : NegR 2000 8 sx1 2 [] r) : r = (sx2,3,0):=by
 have e : (ndI sx1.L 2).kind = 2:=rfl
 rcases h with ⟨h,_⟩ | ⟨h,_⟩ | ⟨h,_⟩ | ⟨h,_⟩ | ⟨_,h⟩
 ·rw [e] at h; cases h
 ·rw [e] at h; cases h
 ·rw [e] at h; cases h
 ·rw [e] at h; cases h
 rw [h]
 exact put_v0
theorem ok_sx1 : okI sx1.L 2:=⟨by decide,by decide⟩
theorem ok_sx2 : okI sx2.L 2:=⟨by decide,by decide⟩
theorem ok_sx3 : okI sx2.L 3:=⟨by decide,by decide⟩
theorem gv_sx2 : Gv 8 sx2.L:=by
 have h:=(kp_put (nn:=2000) (kk:=8) (s:=sx1) (n:=nx2) gv_sx1 (.inl ⟨_,fit_v0.neg,rfl,by simp [negA,scl]⟩)).gv
 rw [put_v0] at h
 exact h
theorem ag_sx2 {r : St × Int × Int} (h : AgR 2000 8 sx2 2 [] r) : r = (sx2,2,0):=by
 have e : (ndI sx2.L 2).kind = 2:=rfl
 rcases h with ⟨h,_⟩ | ⟨h,_⟩ | ⟨h | h,_⟩ | ⟨_,h⟩
 ·rw [e] at h; cases h
 ·rw [e] at h; cases h
 ·rw [e] at h; cases h
 ·rw [e] at h; cases h
 exact h
theorem k2_sx2 : (ndI sx2.L 2).kind = 2:=rfl
theorem k3_sx2 : (ndI sx2.L 3).kind = 2:=rfl
theorem mem_sx2 {kd idle : Int} (hk : kd = 5 ∨ kd = 6) (hi : idle = 0 ∨ idle = 1) (x : Int) : Mem sx2.L kd idle [2,3] x ↔ x = 2 ∨ x = 3:=by
 constructor
 ·rintro ⟨h,_⟩
  refine h (fun x => x = 2 ∨ x = 3) (by simp) fun y z hy _ hkd _ => ?_
  rcases hy with rfl | rfl
  ·rw [k2_sx2] at hkd; omega
  rw [k3_sx2] at hkd; omega
 rintro (rfl | rfl)
 ·exact ⟨rk_id (by simp),ok_sx2,by rw [k2_sx2]; omega,by omega⟩
 exact ⟨rk_id (by simp),ok_sx3,by rw [k3_sx2]; omega,by omega⟩
theorem stay_sx2 {kd idle : Int} (sg : Int) (hk : kd = 5 ∨ kd = 6) (hi : idle = 0 ∨ idle = 1) (x : Int) (hx : x = 2 ∨ x = 3) : Stay sx2.L sg (Mem sx2.L kd idle [2,3]) x:=by
 refine ⟨(mem_sx2 hk hi x).2 hx,?_,fun y hy _ hp => ?_⟩
 ·rcases hx with rfl | rfl
  ·exact k2_sx2
  exact k3_sx2
 rcases (mem_sx2 hk hi y).1 hy with rfl | rfl <;> rcases hx with rfl | rfl
 ·exact Int.lt_irrefl _
 ·exact absurd hp (by simp [ndI,sx2,nx1,nx2])
 ·exact absurd hp (by simp [ndI,sx2,nx1,nx2])
 exact Int.lt_irrefl _
theorem join_sx2 {kd dual idle rul sg : Int} (hk : kd = 5 ∨ kd = 6) (hi : idle = 0 ∨ idle = 1) {r : St × Int × Int} (h : SimpR 2000 8 sx2 kd dual idle rul sg [2,3] r) : r = (sx2,rul,0):=by
 have hc : Clash sx2.L sg (Mem sx2.L kd idle [2,3]):=⟨2,3,stay_sx2 sg hk hi 2 (.inl rfl),stay_sx2 sg hk hi 3 (.inr rfl),rfl,by
  rw [show (ndI sx2.L 2).k = 0 from rfl,show (ndI sx2.L 3).k = 1 from rfl]; omega⟩
 rcases h with ⟨⟨x,hx,hn⟩,_⟩ | ⟨_,⟨_,h⟩ | ⟨h,_⟩⟩
 ·rcases (show x = 2 ∨ x = 3 by simpa using hx) with rfl | rfl
  ·exact absurd ok_sx2 hn
  exact absurd ok_sx3 hn
 ·exact h
 exact absurd (.inr (.inl hc)) h
theorem EA.step {w0 w w' : World} {e : Ending} {pa pm : Nat} {nn kk : Int} {s s' : St} {F : Nat→Prop} {r : St × Int × Int} {x er : Int} (h : EA w0 w pa pm nn kk s F) (ha : AO2 w w' e pa pm nn kk F r) (hr : r = (s',x,er)) (hv : Gv kk s'.L) : e = .returned (.tuple #[.int .i64 x,.int .i64 er])∧∃ F',EA w0 w' pa pm nn kk s' F':=by
 subst hr
 obtain ⟨F',h1,_⟩:=h.next ha hv
 exact ⟨ha.1,F',h1⟩
end Nt
namespace Nt

theorem il_23 (w : World) : IL (w.alloc (.cells #[.int .i64 2,.int .i64 3] 3)) (some ⟨w.heap.size,0,none⟩) ([2,3] : List Int).length [2,3]:=by
 have hc0 : (w.alloc (.cells #[.int .i64 2,.int .i64 3] 3)).heap[w.heap.size]? = some (.cells #[.int .i64 2,.int .i64 3] 3 (0,0)):=heap_alloc_new w _
 exact ⟨rfl,.inr ⟨w.heap.size,0,rfl,by simp,fun i hi => by
  obtain rfl | rfl : i = 0 ∨ i = 1:=by simp at hi; omega
  ·exact ⟨cell_of_row _ w.heap.size 0 _ _ (0,0) hc0,show I64 2 by unfold I64; decide⟩
  exact ⟨cell_of_row _ w.heap.size 1 _ _ (0,0) hc0,show I64 3 by unfold I64; decide⟩⟩⟩
def StP (w0 : World) (pa pm : Nat) (s : St) (x : Int) (e : Ending) (w' : World) : Prop:=e = .returned (.tuple #[.int .i64 x,.int .i64 0])∧∃ F,EA w0 w' pa pm 2000 8 s F
theorem and_23 {w0 w : World} {pa pm : Nat} {F : Nat→Prop} (h : EA w0 w pa pm 2000 8 sx2 F) : Calls Tryz.prog 14 #[.pointer (some ⟨pa,0,none⟩),.slice (some ⟨w.heap.size,0,none⟩) 2 2] (w.alloc (.cells #[.int .i64 2,.int .i64 3] 3)) (StP w0 pa pm sx2 0):=by
 have hE:=h.below (below_alloc w (.cells #[.int .i64 2,.int .i64 3] 3))
 refine Calls.mono (and9_n (kc:=2) (ids:=[2,3]) hE.g hE.v hE.k0 (by decide) (il_23 w) (by simp) hE.tab) ?_
 rintro e w' ⟨r,hs,ha⟩
 exact hE.step ha (join_sx2 (.inl rfl) (.inr rfl) hs) gv_sx2
theorem or_23 {w0 w : World} {pa pm : Nat} {F : Nat→Prop} (h : EA w0 w pa pm 2000 8 sx2 F) : Calls Tryz.prog 15 #[.pointer (some ⟨pa,0,none⟩),.slice (some ⟨w.heap.size,0,none⟩) 2 2] (w.alloc (.cells #[.int .i64 2,.int .i64 3] 3)) (StP w0 pa pm sx2 1):=by
 have hE:=h.below (below_alloc w (.cells #[.int .i64 2,.int .i64 3] 3))
 refine Calls.mono (or9_n (kc:=2) (ids:=[2,3]) hE.g hE.v hE.k0 (by decide) (il_23 w) (by simp) hE.tab) ?_
 rintro e w' ⟨r,hs,ha⟩
 exact hE.step ha (join_sx2 (.inr rfl) (.inl rfl) hs) gv_sx2
theorem neg_2 {w0 w : World} {pa pm : Nat} {F : Nat→Prop} (hE : EA w0 w pa pm 2000 8 sx1 F) : Calls Tryz.prog 12 #[.pointer (some ⟨pa,0,none⟩),.int .i64 2] w (StP w0 pa pm sx2 3):=by
 refine Calls.mono (negate_n hE (by unfold I64; decide)) ?_
 rintro e w' ⟨r,ha, -, -,hf, -⟩
 exact hE.step ha (neg_sx1 (hf rfl ok_sx1)) gv_sx2
theorem ag_2 {w0 w : World} {pa pm : Nat} {F : Nat→Prop} (hE : EA w0 w pa pm 2000 8 sx2 F) : Calls Tryz.prog 13 #[.pointer (some ⟨pa,0,none⟩),.int .i64 2] w (StP w0 pa pm sx2 2):=by
 refine Calls.mono (again_n hE (by unfold I64; decide)) ?_
 rintro e w' ⟨r,ha, -, -,hf, -⟩
 exact hE.step ha (ag_sx2 (hf rfl ok_sx2)) gv_sx2
theorem awake9_n {w : World} (htab : Tab w) : Calls Tryz.prog 6 #[] w fun e w' => e = .returned (.bool true)∧Below w.heap.size w w':=by
 replace htab:=hide htab
 go_enter Tryz.func6,Tryz.ntmps6
 go_wp2_with fail
 refine (new_ag htab.out).mono ?_
 rintro e w1 ⟨pa,pm,F,rfl,hG,hF,hpw,k1⟩
 have hE : Hid (EA w w1 pa pm 2000 8 st0 F):=hide ⟨hG,gv_st0 8,hF,hpw,k1,htab.out,by decide,by decide⟩
 clear hG hF hpw k1 htab
 go_wp2_with fail
 refine (tvar_n (v:=0) (B:=2) (by unfold I64; decide) o_m).mono ?_
 rintro e w2 ⟨ad2,cp2,rs2,rfl,hT2,hr2⟩
 obtain ⟨hP2,hZ2,hl2⟩:=hT2.tw
 rw [hr2] at hP2
 replace hE:=hide (hE.out.below hT2.below)
 have hcall:=hide (atom_ao2 (B:=2) (kd:=2) (cp:=cp2) hE.out.g (zn_zero _).zm o_m hP2 hZ2 hl2 o_m o_m hE.out.tab)
 clear hT2 hP2 hZ2 hl2 hr2
 go_wp2_with fail
 refine hcall.out.mono ?_
 rintro e w3 ha
 obtain ⟨rfl,F3,hE3⟩:=hE.out.step ha act_v0 gv_sx1
 clear ha hcall hE
 replace hE3:=hide hE3
 go_wp2_with fail
 refine (neg_2 hE3.out).mono ?_
 rintro e w4 ⟨rfl,F4,hE4⟩
 clear hE3
 replace hE4:=hide hE4
 go_wp2_with fail
 refine (and_23 hE4.out).mono ?_
 rintro e w5 ⟨rfl,F5,hE5⟩
 clear hE4
 replace hE5:=hide hE5
 go_wp2_with fail
 refine (or_23 hE5.out).mono ?_
 rintro e w6 ⟨rfl,F6,hE6⟩
 clear hE5
 replace hE6:=hide hE6
 go_wp2_with fail
 refine (ag_2 hE6.out).mono ?_
 rintro e w7 ⟨rfl,F7,hE7⟩
 clear hE6
 replace hE7:=hide hE7.k
 go_wp2_with fail
 go_ret
 exact ⟨rfl,hE7.out⟩
end Nt
end Go.Proofs.YtghboandiekiiaaGreatDoor

namespace Go.Proofs.YtghboandiekiiaaGreatDoor
open Go.RowKit Go.Sort Go.Shelf
open Tm At
open Nt

theorem simpNil_walk {w : World} (ka : Option Addr) (kn kc : Nat) (id : Int) (htab : Tab w) :
  Calls Tryz.prog 5 #[.slice ka kn kc,.int .i64 id] w fun e w' => e = .returned (.bool true)∧Below w.heap.size w w':=by
 replace htab:=hide htab
 go_enter Tryz.func5,Tryz.ntmps5
 go_wp2_with fail
 refine (awake9_n htab.out).mono ?_
 rintro e w1 ⟨rfl,k1⟩
 clear htab
 replace k1:=hide k1
 go_wp2_with fail
 refine (and_nil w1 ka kn kc).mono ?_
 rintro e w2 ⟨rfl,k2⟩
 replace k2:=hide (grow_step k2 k1.out)
 clear k1
 go_wp2_with fail
 refine (or_nil w2 ka kn kc).mono ?_
 rintro e w3 ⟨rfl,k3⟩
 replace k3:=hide (grow_step k3 k2.out)
 clear k2
 go_wp2_with fail
 refine (negate_nil w3 id).mono ?_
 rintro e w4 ⟨rfl,k4⟩
 replace k4:=hide (grow_step k4 k3.out)
 clear k3
 go_wp2_with fail
 refine (again_nil w4 id).mono ?_
 rintro e w5 ⟨rfl,k5⟩
 replace k5:=hide (grow_step k5 k4.out)
 clear k4
 go_wp2_with fail
 go_ret
 exact ⟨rfl,k5.out⟩
end Go.Proofs.YtghboandiekiiaaGreatDoor
