/-
 Several texts in one: M2,M3.
-/
import Derived.Test.YtbgpddlcfiiiaaaGreatDoorSbm05
import Derived.Deep.RegionHeld3
set_option maxRecDepth 100000
set_option maxHeartbeats 1600000
namespace Go.Proofs.YtbgpddlcfiiiaaaGreatDoor
open Go.RowKit

theorem g7_drew {w0 w:World}(h:Below w0.heap.size w0 w):Below w0.heap.size w0 w.drew:=Below.drew h
theorem sk7 {w w':World}{p:Nat}{c e:Int}(y:TL7 w p c e)(k:Below w.heap.size w w'):w'.cell? ⟨p,0,none⟩=some (.int .i64 c)∧w'.cell? ⟨p,1,none⟩=some (.int .i64 e):=⟨(y.below k).c0,(y.below k).c1⟩
theorem sk7' {w w':World}{p b:Nat}{c e:Int}{v:Value}(y:TL7 w p c e)(hne:p≠b)(k:Below w.heap.size w w'):(w'.setCell ⟨b,2,none⟩ v).cell? ⟨p,0,none⟩=some (.int .i64 c)∧(w'.setCell ⟨b,2,none⟩ v).cell? ⟨p,1,none⟩=some (.int .i64 e):=by
 have z:TL7 (w'.setCell ⟨b,2,none⟩ v) p c e:=((but_setCell w' b 2 v).block p (y.below k).lt hne).trans (y.below k)
 exact⟨z.c0,z.c1⟩

theorem load_0 {b:Nat}{n k c:Int}{w:World}(h:MB w b n k c 0):
  Calls Tryz.prog 50 #[.pointer (some ⟨b,2,none⟩)] w fun r w'=>r= .returned (.int .i64 (c*256))∧w=w':=by
 have:=load_n h
 rwa [Int.add_zero]at this
theorem unpacked_0 {c:Int}{w:World}(hc:0≤c)(hc2:c≤2000):
  Calls Tryz.prog 49 #[.int .i64 (c*256)] w fun r w'=>r= .returned (.agg #[.int .i64 c,.int .i64 0])∧Below w.heap.size w w':=by
 have:=unpacked_n (w:=w) hc hc2 (Int.le_refl 0) (by decide)
 rwa [Int.add_zero]at this
theorem cas_0 {b:Nat}{n k c:Int}{w:World}(h:MB w b n k c 0)(y:Int):
  Calls Tryz.prog 166 #[.pointer (some ⟨b,2,none⟩),.int .i64 (c*256),.int .i64 y] w fun r w'=>r= .returned (.bool true)∧w'=w.setCell ⟨b,2,none⟩ (.int .i64 y):=by
 have:=cas_n h y
 rwa [Int.add_zero]at this

theorem change_over {w:World}{b:Nat}{n k c e:Int}{v:Value}(h:MB w b n k c e)(hc:0≤c)(hc2:c≤2000)(he:0<e)(he2:e<256):
  Calls Tryz.prog 139 #[.pointer (some ⟨b,0,none⟩),v] w fun r w'=>r= .returned (.int .i64 e)∧Below w.heap.size w w':=by
 go_enter Tryz.func139,Tryz.ntmps139
 go_wp2_with fail
 go_loopw [] (fun wr=>w=wr) (fun _=>0)
 case atStart=>rfl
 case round=>
  subst hrel
  go_wp2_with fail
  refine(load_n h).mono ?_
  rintro x w1 ⟨rfl,rfl⟩
  go_wp2_with fail
  refine(unpacked_n hc hc2 (by omega) he2).mono ?_
  rintro x w1 ⟨rfl,k1⟩
  have hne:(e==0)=false:=by rw[beq_eq_false_iff_ne];omega
  have k2:=hide (step7 (below_alloc7 w1 (.cells #[.int .i64 c,.int .i64 e] 103)) k1)
  go_wp2_with fail
  go_ret
  exact⟨rfl,k2.out⟩

theorem change_go {w:World}{b kf:Nat}{n k c c' e' r:Int}{lb:Array Value}(eg: ∀args w,(callFunc kf args).run Tryz.prog w= .ok (.enter kf args) w)
  (hf: ∀w',Below w.heap.size w w'→Calls Tryz.prog kf (#[.agg #[.int .i64 c,.int .i64 0]]++lb) w' fun x w''=>x= .returned (.tuple #[.agg #[.int .i64 c',.int .i64 e'],.int .i64 r])∧Below w'.heap.size w' w'')
  (h:MB w b n k c 0)(hc:0≤c)(hc2:c≤2000)(hd:0≤c')(hd2:c'≤2000)(he:0≤e')(he2:e'<256):
  Calls Tryz.prog 139 #[.pointer (some ⟨b,0,none⟩),.func (.func kf) #[] lb] w fun x w'=>x= .returned (.int .i64 r)∧MB w' b n k c' e'∧But b w w':=by
 go_enter Tryz.func139,Tryz.ntmps139
 go_wp2_with fail
 have hf2:=hide hf
 clear hf
 go_loopw [] (fun wr=>w=wr) (fun _=>0)
 case atStart=>rfl
 case round=>
  subst hrel
  go_wp2_with fail
  refine(load_0 h).mono ?_
  rintro x w1 ⟨rfl,rfl⟩
  go_wp2_with fail
  refine(unpacked_0 hc hc2).mono ?_
  rintro x w1 ⟨rfl,k1⟩
  have k2:=hide (step7 (below_alloc7 w1 (.cells #[.int .i64 c,.int .i64 0] 103)) k1)
  go_wp2_with fail
  refine(hf2.out _ k2.out).mono ?_
  rintro x w3 ⟨rfl,k3⟩
  have k4:=hide (step7 k3 k2.out)
  have y:=TL7.new w3 c' e'
  have k5:=hide (step7 (below_alloc7 w3 (.cells #[.int .i64 c',.int .i64 e'] 103)) k4.out)
  clear k1 k2 k3
  have hne:w3.heap.size≠b:=by have h1:=h.lt;have h2:=k4.out.size;omega
  have h5:=h.below k5.out
  go_wp2_with fail
  generalize w3.heap.size=p at*
  generalize w3.alloc (.cells #[.int .i64 c',.int .i64 e'] 103)=w5 at*
  go_region_held3 (fun w'=>w'.cell? ⟨p,0,none⟩=some (.int .i64 c')∧w'.cell? ⟨p,1,none⟩=some (.int .i64 e'))
   ((first|(refine sk7' y hne ?_;(repeat' (first|with_reducible exact Below.refl _ _|with_reducible assumption|with_reducible refine step7 (by with_reducible assumption) ?_|with_reducible refine g7_drew ?_|with_reducible refine g7_alloc ?_ _|with_reducible refine g7_drewN ?_ _)))|(refine sk7 y ?_;(repeat' (first|with_reducible exact Below.refl _ _|with_reducible assumption|with_reducible refine step7 (by with_reducible assumption) ?_|with_reducible refine g7_drew ?_|with_reducible refine g7_alloc ?_ _|with_reducible refine g7_drewN ?_ _)))))
   (first|(go_at_call 167;with_reducible refine(packed_n hd hd2 he he2).mono ?_;rintro x w6 ⟨rfl,hg⟩)|(go_at_call 166;with_reducible refine(cas_0 (MB.below h5 (by(repeat' (first|with_reducible exact Below.refl _ _|with_reducible assumption|with_reducible refine step7 (by with_reducible assumption) ?_|with_reducible refine g7_drew ?_|with_reducible refine g7_alloc ?_ _|with_reducible refine g7_drewN ?_ _)))) _).mono ?_;rintro x w7 ⟨rfl,rfl⟩))
  have k6:Below w5.heap.size w5 w6:=(by(repeat' (first|with_reducible exact Below.refl _ _|with_reducible assumption|with_reducible refine step7 (by with_reducible assumption) ?_|with_reducible refine g7_drew ?_|with_reducible refine g7_alloc ?_ _|with_reducible refine g7_drewN ?_ _)))
  have h6:=hide ((h5.below k6).set c' e')
  have b6:=hide ((Below.but (step7 k6 k5.out) b).trans (but_setCell w6 b 2 (.int .i64 (c'*256+e'))))
  go_wp2
  go_ret
  exact⟨rfl,h6.out,b6.out⟩

def BX (w:World)(b:Nat)(v:Value)(t:TypeId):Prop:=w.heap[b]? =some (.cells #[v] t (0,0))
namespace BX
variable {w w':World}{b:Nat}{v:Value}{t:TypeId}
theorem lt (h:BX w b v t):b<w.heap.size:=lt_of_block h
theorem c0 (h:BX w b v t):w.cell? ⟨b,0,none⟩=some v:=cell_of_row w b 0 _ _ (0,0) h
theorem below (h:BX w b v t)(hb:Below w.heap.size w w'):BX w' b v t:=(hb.block b h.lt).trans h
theorem new (w:World)(v:Value)(t:TypeId):BX (w.alloc (.cells #[v] t)) w.heap.size v t:=heap_alloc_new w _
end BX

theorem count_n {c nn n:Int}{w:World}(hc:0≤c)(hcn:c≤n)(hn:n≤2000)(h0:0≤nn):
  Calls Tryz.prog 142 #[.agg #[.int .i64 c,.int .i64 0],.int .i64 nn,.int .i64 n] w fun r w'=>r= .returned (.tuple #[.agg #[.int .i64 (if n-c<nn then c else c+nn),.int .i64 (if n-c<nn then 70 else 0)],.int .i64 (if n-c<nn then 70 else 0)])∧Below w.heap.size w w':=by
 by_cases h:n-c<nn
 ·rw[if_pos h,if_pos h];exact count_no hc hcn hn h
 rw[if_neg h,if_neg h];exact count_yes hc hcn hn h0 (by omega)


theorem over_n {w:World}{b:Nat}{n k c e:Int}(h:MB w b n k c e)(hc:0≤c)(hcn:c≤2000)(he:0≤e)(he2:e<256):
  Calls Tryz.prog 14 #[.pointer (some ⟨b,0,none⟩)] w fun x w'=>x= .returned (.int .i64 e)∧Below w.heap.size w w':=by
 have hfl: ∀w,Sem.run Tryz.prog (Instr.field 103 (.agg #[.int .i64 c,.int .i64 e]) 1) w= .ok (.int .i64 e) w:=fun _=>by kernel_rfl
 go_enter Tryz.func14,Tryz.ntmps14
 go_wp2_with fail
 refine(load_n h).mono ?_
 rintro x w1 ⟨rfl,rfl⟩
 go_wp2_with fail
 refine(unpacked_n hc hcn he he2).mono ?_
 rintro x w1 ⟨rfl,k1⟩
 go_wp2
 go_ret
 exact⟨rfl,k1⟩

theorem new_n {w:World}{n k:Int}(hn:1≤n)(hn2:n≤2000)(hk:1≤k)(hk2:k≤8):
  Calls Tryz.prog 25 #[.int .i64 n,.int .i64 k] w fun x w'=>x= .returned (.tuple #[.pointer (some ⟨w.heap.size,0,none⟩),.int .i64 0])∧MB w' w.heap.size n k 0 0∧Below w.heap.size w w':=by
 have h1:(n<1)=False:=by simp;omega
 have h2:(2000<n)=False:=by simp;omega
 have h3:(k<1)=False:=by simp;omega
 have h4:(8<k)=False:=by simp;omega
 go_enter Tryz.func25,Tryz.ntmps25
 go_wp2
 refine bodyPost_ret (results_tmp2 rfl _ _ _) rfl ?_
 exact⟨rfl,heap_alloc_new w _,below_alloc7 _ _⟩

end Go.Proofs.YtbgpddlcfiiiaaaGreatDoor
