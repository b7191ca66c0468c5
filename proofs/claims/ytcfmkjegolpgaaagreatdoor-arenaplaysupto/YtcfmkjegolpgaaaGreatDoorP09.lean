/-
 Several texts in one: M9,MA.
-/
import Derived.Test.YtcfmkjegolpgaaaGreatDoorP08
import Derived.Test.YtcfmkjegolpgaaaGreatDoorP01
import Derived.Laws.CopyOwn
import Derived.Maps.AppendAt
import Derived.RangeFuncBox
import Derived.BigQuiet
set_option maxRecDepth 100000
set_option maxHeartbeats 3200000
namespace Go.Proofs.YtcfmkjegolpgaaaGreatDoor.Mt
open Go.RowKit


theorem rlimbs7_n {w : World} {s : Bool} {a : Option Addr} {l c : Nat} {xs : List Int} (h : Rd w a l c xs) (hl : l≤1099511627776) :
  Calls Tryz.prog 130 #[.agg #[.bool s,.slice a l c]] w fun e w' => e = .returned (.int .i64 (tl xs l))∧Below w.heap.size w w':=by
 have b0:=below_alloc7 w (.cells #[.bool s,.slice a l c] 37)
 have x:=zb_new w s a l c
 have hb:=h.below b0
 go_enter Tryz.func130,Tryz.ntmps130
 have x0:=x.c0
 have x1:=x.c1
 have HH:=hide (And.intro b0 hb)
 clear b0 hb x h
 go_wp2_with fail
 obtain ⟨b0,hb⟩:=HH.out
 clear HH
 generalize w.alloc (.cells #[.bool s,.slice a l c] 37) = wb at *
 generalize hp : w.heap.size = p at *
 replace hp:=hide hp
 replace b0:=hide b0
 go_loop [3] (fun n => ∃ k : Nat,k≤l∧n = .int .i64 k∧Hid (tl xs l = tl xs k)) (fun n => (intOf n).toNat)
 case atStart => exact ⟨l,Nat.le_refl _,rfl,(show _ = _ from rfl)⟩
 case round =>
  obtain ⟨k,hk,rfl,HT⟩:=hrel
  cases k with
  | zero =>
   go_wp2
   go_ret
   exact ⟨ret_int (by rw [HT.out]; rfl),hp.out ▸ b0.out⟩
  | succ m =>
   obtain ⟨b,off,rfl,g⟩:=hb.some (by omega)
   have hcm:=g m (by omega)
   clear g
   by_cases hz0 : lz xs m = 0
   ·have HZ : Hid (lz xs m = 0):=hz0
    have hz1 : (lz xs m == 0) = true:=by simp [hz0]
    clear hz0
    go_wp2
    go_round
    case rel => exact ⟨m,by omega,by go_num,by show _ = _; rw [HT.out]; conv => lhs; rw [tl,if_pos HZ.out]⟩
    case measure => simp [intOf]
   have HZ : Hid (¬ lz xs m = 0):=hz0
   have hz1 : (lz xs m == 0) = false:=by simp [hz0]
   clear hz0
   go_wp2
   go_ret
   exact ⟨ret_int (by rw [HT.out,tl,if_neg HZ.out]; rfl),hp.out ▸ b0.out⟩

theorem refnode_over {w : World} {b : Nat} {n k c e : Int} {ad : Option Addr} {m cp : Nat} (h : RBm w b n k c e) (he : 0 < e) :
  Calls Tryz.prog 70 #[.pointer (some ⟨b,0,none⟩),.slice ad m cp] w fun x w' => x = .returned (.int .i64 e)∧Below w.heap.size w w':=by
 have c0:=h.c3
 have hne : (e == 0) = false:=by rw [beq_eq_false_iff_ne]; omega
 go_enter Tryz.func70,Tryz.ntmps70
 go_wp2
 go_ret
 exact ⟨rfl,Below.refl _ _⟩

theorem refnode_n {w : World} {b : Nat} {n k c : Int} {ad : Option Addr} {m cp : Nat} {Q : List (Bool × List Int)} {B : Nat} (h : RBm w b n k c 0) (hN : NL w ad m Q B) (hB : B≤4194304) (hm : m≤4194304) (hc : 0≤c) (hcn : c≤n) (hn : n≤2000) :
  Calls Tryz.prog 70 #[.pointer (some ⟨b,0,none⟩),.slice ad m cp] w fun x w' => x = .returned (.int .i64 (if Q.any (isl k) then 71 else if n - c < 1 then 70 else 0))∧RBm w' b n k (if Q.any (isl k) then c else if n - c < 1 then c else c + 1) (if Q.any (isl k) then 71 else if n - c < 1 then 70 else 0)∧But b w w':=by
 generalize hr0 : (if Q.any (isl k) = true then (71 : Int) else if n - c < 1 then 70 else 0) = r0
 generalize hr1 : (if Q.any (isl k) = true then c else if n - c < 1 then c else c + 1) = r1
 replace hr0:=hide hr0
 replace hr1:=hide hr1
 have c3:=h.c3
 go_enter Tryz.func70,Tryz.ntmps70
 go_wp2_with fail
 clear c3
 go_loopw [5] (fun i wr => ∃ t : Nat,t≤m∧i = .int .i64 t∧Hid ((Q.take t).any (isl k) = false)∧Hid (Below w.heap.size w wr)) (fun i _ => m - (intOf i).toNat)
 case atStart => exact ⟨0,Nat.zero_le _,rfl,(show _ = _ by simp),Below.refl _ _⟩
 case round =>
  obtain ⟨t,ht,rfl,hno,kr⟩:=hrel
  have hq:=h.below kr.out
  have c0:=hq.c0
  have c1:=hq.c1
  have c2:=hq.c2
  have c3:=hq.c3
  have f2:=hq.f 2
  have f3:=hq.f 3
  by_cases htm : t < m
  ·have hLl:=hN.1
   obtain ⟨-,hLL⟩:=hN.below kr.out
   rcases hLL with h0 | ⟨bp,op,rfl,hLL⟩
   ·omega
   obtain ⟨a,l,cc,e0,e1,hr,hl⟩:=hLL t (by omega)
   have hstep : Hid ((Q.take (t + 1)).any (isl k) = isl k Q[t]):=(show _ = _ by rw [List.take_succ_eq_append_getElem (l:=Q) (i:=t) (by omega),List.any_append,hno.out]; simp)
   have hex : Hid (isl k Q[t] = true→Q.any (isl k) = true):=(fun hh => List.any_eq_true.2 ⟨Q[t],List.getElem_mem _,hh⟩)
   generalize Q[t] = lt at *
   obtain ⟨ls,lx⟩:=lt
   dsimp only at *
   clear hLL
   go_wp2_with fail
   refine (rlimbs7_n hr (by omega)).mono ?_
   rintro x w2 ⟨rfl,k2⟩
   obtain rfl : lx.length = l:=hr.1
   have hq2:=hq.below k2
   have kw:=hide (step7 k2 kr.out)
   clear c0 c1 c2 c3 f2 f3 hr e0 e1 kr hq k2
   have c1:=hq2.c1
   have c3:=hq2.c3
   have f3:=hq2.f 3
   have htl:=tl_le lx lx.length
   have hil : Hid (isl k (ls,lx) = decide (k < (tl lx lx.length : Int))):=(show _ = _ from rfl)
   generalize tl lx lx.length = q at *
   by_cases hkq : k < (q : Int)
   ·have hany:=hide (hex.out (hil.out.trans (by simp [hkq])))
    go_wp2
    go_ret
    have e0 : r0 = 71:=by rw [← hr0.out,if_pos hany.out]
    have e1 : r1 = c:=by rw [← hr1.out,if_pos hany.out]
    subst e0 e1
    exact ⟨rfl,hq2.sete 71,(Below.but kw.out b).trans (but_setCell _ _ _ _)⟩
   go_wp2
   go_round
   case rel => exact ⟨t + 1,by omega,by go_num,hstep.out.trans (hil.out.trans (by simp [hkq])),kw.out⟩
   case measure => simp [intOf]; omega
  obtain rfl : t = m:=by omega
  have hall : Hid (Q.any (isl k) = false):=by
   have h1:=hno.out
   rw [List.take_of_length_le (by have:=hN.1; omega)] at h1
   exact h1
  clear hno
  replace hr0 : Hid ((if n - c < 1 then (70 : Int) else 0) = r0):=by have:=hr0.out; rw [if_neg (by rw [hall.out]; decide)] at this; exact this
  replace hr1 : Hid ((if n - c < 1 then c else c + 1) = r1):=by have:=hr1.out; rw [if_neg (by rw [hall.out]; decide)] at this; exact this
  clear hall
  by_cases hcn2 : c = n
  ·obtain rfl:=hcn2
   go_wp2_with fail
   go_quiet (fail)
   have kq:=step7 (g7_drewN (Below.refl wr.heap.size wr) nq) kr.out
   have hq2:=h.below kq
   clear c0 c1 c2 c3 f2 f3 hq kr
   generalize wr.drewN nq = wq at *
   replace kq:=hide kq
   have c3:=hq2.c3
   have f3:=hq2.f 3
   go_wp2
   go_ret
   have e0 : r0 = 70:=by rw [← hr0.out,if_pos (by omega)]
   have e1 : r1 = c:=by rw [← hr1.out,if_pos (by omega)]
   subst e0 e1
   exact ⟨rfl,hq2.sete 70,(Below.but kq.out b).trans (but_setCell _ _ _ _)⟩
  have hne : (c == n) = false:=by rw [beq_eq_false_iff_ne]; exact hcn2
  go_wp2_with fail
  go_quiet (fail)
  have kq:=step7 (g7_drewN (Below.refl wr.heap.size wr) nq) kr.out
  have hq2:=h.below kq
  clear c0 c1 c2 c3 f2 f3 hq kr
  generalize wr.drewN nq = wq at *
  replace kq:=hide kq
  have c2:=hq2.c2
  have f2:=hq2.f 2
  go_wp2
  go_ret
  have e0 : r0 = 0:=by rw [← hr0.out,if_neg (by omega)]
  have e1 : r1 = c + 1:=by rw [← hr1.out,if_neg (by omega)]
  subst e0 e1
  exact ⟨rfl,hq2.setc (c + 1),(Below.but kq.out b).trans (but_setCell _ _ _ _)⟩
end Go.Proofs.YtcfmkjegolpgaaaGreatDoor.Mt
