/-
 Layer 7: a meter's word: what was counted and what was crossed,packed; the tally's methods.
-/
import Derived.Test.YtbgpddlcfiiiaaaGreatDoorSbm01
import Derived.Laws.LoneSync
import Derived.Laws.BitsLemmas
set_option maxRecDepth 100000
set_option maxHeartbeats 1600000
namespace Go.Proofs.YtbgpddlcfiiiaaaGreatDoor
open Go.RowKit

theorem below_alloc7 (w:World)(o:Obj):Below w.heap.size w (w.alloc o):=(Below.refl _ _).alloc (Nat.le_refl _) o
theorem step7 {w0 w1 w2:World}(k:Below w1.heap.size w1 w2)(h:Below w0.heap.size w0 w1):Below w0.heap.size w0 w2:=h.trans (k.mono h.size)
structure But (b:Nat) (w w':World):Prop where
 os:w'.os=w.os
 tape:w'.tape=w.tape
 output:w'.output=w.output
 size:w.heap.size≤w'.heap.size
 block: ∀i,i<w.heap.size→i≠b→w'.heap[i]? =w.heap[i]?

theorem Below.but {w w':World}(h:Below w.heap.size w w')(b:Nat):But b w w':=⟨h.os,h.tape,h.output,h.size,fun i hi _=>h.block i hi⟩
theorem But.trans {b:Nat}{w w1 w2:World}(h:But b w w1)(k:But b w1 w2):But b w w2:=
 ⟨k.os.trans h.os,k.tape.trans h.tape,k.output.trans h.output,Nat.le_trans h.size k.size,fun i hi hb=>(k.block i (Nat.lt_of_lt_of_le hi h.size) hb).trans (h.block i hi hb)⟩
theorem but_setCell (w:World)(b off:Nat)(v:Value):But b w (w.setCell ⟨b,off,none⟩ v):=by
 have k:Below b w (w.setCell ⟨b,off,none⟩ v):=(Below.refl _ _).setCell (p:=⟨b,off,none⟩) (Nat.le_refl _) v
 refine⟨k.os,k.tape,k.output,k.size,fun i hi hb=> ?_⟩
 exact heap_setCell_other w _ _ _ hb

def MB (w:World)(b:Nat)(n k c e:Int):Prop:=w.heap[b]? =some (.cells #[.int .i64 n,.int .i64 k,.int .i64 (c*256+e)] 111 (0,0))

theorem lt_of_block {w:World}{b:Nat}{o:Obj}(h:w.heap[b]? =some o):b<w.heap.size:=by
 rcases Nat.lt_or_ge b w.heap.size with hb|hb
 ·exact hb
 rw[Array.getElem?_eq_none hb]at h;cases h

namespace MB
variable {w w':World}{b:Nat}{n k c e:Int}
theorem lt (h:MB w b n k c e):b<w.heap.size:=lt_of_block h
theorem c0 (h:MB w b n k c e):w.cell? ⟨b,0,none⟩=some (.int .i64 n):=cell_of_row w b 0 _ _ (0,0) h
theorem c1 (h:MB w b n k c e):w.cell? ⟨b,1,none⟩=some (.int .i64 k):=cell_of_row w b 1 _ _ (0,0) h
theorem c2 (h:MB w b n k c e):w.cell? ⟨b,2,none⟩=some (.int .i64 (c*256+e)):=cell_of_row w b 2 _ _ (0,0) h
theorem f (h:MB w b n k c e)(i:Nat):w.frozen? ⟨b,i,none⟩=false:=frozen_of_row w b i _ _ h
theorem below (h:MB w b n k c e)(hb:Below w.heap.size w w'):MB w' b n k c e:=(hb.block b h.lt).trans h
theorem set (h:MB w b n k c e)(c' e':Int):MB (w.setCell ⟨b,2,none⟩ (.int .i64 (c'*256+e'))) b n k c' e':=heap_setCell_same w b 2 _ _ _ h
end MB

def TL7 (w:World)(b:Nat)(c e:Int):Prop:=w.heap[b]? =some (.cells #[.int .i64 c,.int .i64 e] 103 (0,0))
namespace TL7
variable {w w':World}{b:Nat}{c e:Int}
theorem lt (h:TL7 w b c e):b<w.heap.size:=lt_of_block h
theorem c0 (h:TL7 w b c e):w.cell? ⟨b,0,none⟩=some (.int .i64 c):=cell_of_row w b 0 _ _ (0,0) h
theorem c1 (h:TL7 w b c e):w.cell? ⟨b,1,none⟩=some (.int .i64 e):=cell_of_row w b 1 _ _ (0,0) h
theorem f (h:TL7 w b c e)(i:Nat):w.frozen? ⟨b,i,none⟩=false:=frozen_of_row w b i _ _ h
theorem below (h:TL7 w b c e)(hb:Below w.heap.size w w'):TL7 w' b c e:=(hb.block b h.lt).trans h
theorem set (h:TL7 w b c e)(c' e':Int):TL7 ((w.setCell ⟨b,0,none⟩ (.int .i64 c')).setCell ⟨b,1,none⟩ (.int .i64 e')) b c' e':=
 heap_setCell_same _ b 1 _ _ _ (heap_setCell_same w b 0 _ _ _ h)
theorem new (w:World)(c e:Int):TL7 (w.alloc (.cells #[.int .i64 c,.int .i64 e] 103)) w.heap.size c e:=heap_alloc_new w _
end TL7

theorem results_ct7 {P:Program}{fn:Func}{p1 t3:Tmp}{ty:TypeId}(h:fn.results= #[.cell p1 ty,.tmp t3])(tmps:Array Value)(w:World)(g1:Nat)(t:TypeId)(cs1:Array Value)(fr:Nat × Nat)(d:TypeDesc)
  (hp1:tmps.getD p1 undef= .pointer (some ⟨g1,0,none⟩))(hg1:w.heap[g1]? =some (.cells cs1 t fr))
  (hu:P.underlying ty=some d)(hd:(match d with| .struct _| .array _ _=>true|_=>false)=true)(hi1:(P.info? ty).map (·.size)=some cs1.size):
  (results fn tmps).run P w= .ok (.tuple #[.agg cs1,tmps.getD t3 undef]) w:=by
 have hp1':tmps[p1]?.getD undef= .pointer (some ⟨g1,0,none⟩):=by simpa using hp1
 simp[results,h,hp1',asAddr,run_loadVar_row w g1 t ty cs1 fr d hg1 hu hd hi1]

theorem wraps63 (n:Int)(h₀:0≤n)(h₁:n<2^63):IntKind.i64.wrap n=n:=by rw[IntKind.wrap_i64];omega
theorem and255 {c e:Int}(hc:0≤c)(hc2:c≤2000)(he:0≤e)(he2:e<256):bits .and .i64 (c*256+e) 255=e:=by
 have:=bits_mask .i64 63 (by decide) wraps63 8 (by decide) (c*256+e) (by omega) (by omega)
 rw[show(2:Int)^8-1=255 from by decide,show(2:Int)^8=256 from by decide]at this
 rw[this];omega
theorem or256 {c e:Int}(hc:0≤c)(hc2:c≤2000)(he:0≤e)(he2:e<256):bits .or .i64 (c*256) e=c*256+e:=
 bits_join .i64 63 (by decide) wraps63 8 (c*256) e (by omega) (by omega) (by omega) he (by omega) (by omega)

theorem unpacked_n {c e:Int}{w:World}(hc:0≤c)(hc2:c≤2000)(he:0≤e)(he2:e<256):
  Calls Tryz.prog 49 #[.int .i64 (c*256+e)] w fun r w'=>r= .returned (.agg #[.int .i64 c,.int .i64 e])∧Below w.heap.size w w':=by
 have h1:=and255 hc hc2 he he2
 have h2:(c*256+e) / 256=c:=by omega
 have h3:=below_alloc7 w (.cells #[.int .i64 c,.int .i64 e] 103)
 go_enter Tryz.func49,Tryz.ntmps49
 go_wp2
 refine bodyPost_ret (results_cell_row rfl _ _ w.heap.size 103 _ (0,0) _ rfl (heap_alloc_new w _) Tryz.underlying103 rfl (by kernel_rfl)) rfl ?_
 exact⟨rfl,h3⟩

theorem packed_n {c e:Int}{w:World}(hc:0≤c)(hc2:c≤2000)(he:0≤e)(he2:e<256):
  Calls Tryz.prog 167 #[.agg #[.int .i64 c,.int .i64 e]] w fun r w'=>r= .returned (.int .i64 (c*256+e))∧Below w.heap.size w w':=by
 have h1:=or256 hc hc2 he he2
 have h3:=below_alloc7 w (.cells #[.int .i64 c,.int .i64 e] 103)
 go_enter Tryz.func167,Tryz.ntmps167
 go_wp2
 go_ret
 exact⟨rfl,h3⟩

theorem cross_n {c e x:Int}{w:World}:
  Calls Tryz.prog 141 #[.agg #[.int .i64 c,.int .i64 e],.int .i64 x] w fun r w'=>r= .returned (.tuple #[.agg #[.int .i64 c,.int .i64 x],.int .i64 x])∧Below w.heap.size w w':=by
 go_enter Tryz.func141,Tryz.ntmps141
 go_wp2
 have h3:=step7 (below_alloc7 (w.alloc (.cells #[.int .i64 c,.int .i64 x] 103)) (.cells #[.int .i64 c,.int .i64 x] 103)) (below_alloc7 w _)
 refine bodyPost_ret (results_ct7 rfl _ _ (w.heap.size+1) 103 _ (0,0) _ rfl (by have:=heap_alloc_new (w.alloc (.cells #[.int .i64 c,.int .i64 x] 103)) (.cells #[.int .i64 c,.int .i64 x] 103);simpa using this) Tryz.underlying103 rfl (by kernel_rfl)) rfl ?_
 exact⟨rfl,h3⟩

theorem count_yes {c nn n:Int}{w:World}(hc:0≤c)(hcn:c≤n)(hn:n≤2000)(h0:0≤nn)(h:nn≤n-c):
  Calls Tryz.prog 142 #[.agg #[.int .i64 c,.int .i64 0],.int .i64 nn,.int .i64 n] w fun r w'=>r= .returned (.tuple #[.agg #[.int .i64 (c+nn),.int .i64 0],.int .i64 0])∧Below w.heap.size w w':=by
 go_enter Tryz.func142,Tryz.ntmps142
 go_wp2
 have h3:=step7 (below_alloc7 (w.alloc (.cells #[.int .i64 (c+nn),.int .i64 0] 103)) (.cells #[.int .i64 (c+nn),.int .i64 0] 103)) (below_alloc7 w _)
 refine bodyPost_ret (results_ct7 rfl _ _ (w.heap.size+1) 103 _ (0,0) _ rfl (by have:=heap_alloc_new (w.alloc (.cells #[.int .i64 (c+nn),.int .i64 0] 103)) (.cells #[.int .i64 (c+nn),.int .i64 0] 103);simpa using this) Tryz.underlying103 rfl (by kernel_rfl)) rfl ?_
 exact⟨rfl,h3⟩

theorem count_no {c nn n:Int}{w:World}(hc:0≤c)(hcn:c≤n)(hn:n≤2000)(h:n-c<nn):
  Calls Tryz.prog 142 #[.agg #[.int .i64 c,.int .i64 0],.int .i64 nn,.int .i64 n] w fun r w'=>r= .returned (.tuple #[.agg #[.int .i64 c,.int .i64 70],.int .i64 70])∧Below w.heap.size w w':=by
 go_enter Tryz.func142,Tryz.ntmps142
 go_wp2_with fail
 have b0:=step7 (below_alloc7 (w.alloc (.cells #[.int .i64 c,.int .i64 0] 103)) (.cells #[.int .i64 0,.int .i64 0] 103)) (below_alloc7 w _)
 have y:=TL7.new (w.alloc (.cells #[.int .i64 c,.int .i64 0] 103)) 0 0
 rw[show(w.alloc (.cells #[.int .i64 c,.int .i64 0] 103)).heap.size=w.heap.size+1 from by simp]at y
 generalize (w.alloc (.cells #[.int .i64 c,.int .i64 0] 103)).alloc (.cells #[.int .i64 0,.int .i64 0] 103)=wb at*
 have hr:w.heap.size≤w.heap.size+1:=by omega
 generalize w.heap.size+1=r at*
 refine cross_n.mono ?_
 rintro x w1 ⟨rfl,k1⟩
 have y1:=y.below k1
 have u0:=y1.c0
 have u1:=y1.c1
 have u2:=y1.f 0
 have u3:=y1.f 1
 have kf:=hide (((step7 k1 b0).setCell (p:=⟨r,0,none⟩) hr (.int .i64 c)).setCell (p:=⟨r,1,none⟩) hr (.int .i64 70))
 clear k1 b0
 go_wp2
 refine bodyPost_ret (results_ct7 rfl _ _ r 103 _ (0,0) _ rfl (y1.set c 70) Tryz.underlying103 rfl (by kernel_rfl)) rfl ?_
 exact⟨rfl,kf.out⟩

theorem load_n {b:Nat}{n k c e:Int}{w:World}(h:MB w b n k c e):
  Calls Tryz.prog 50 #[.pointer (some ⟨b,2,none⟩)] w fun r w'=>r= .returned (.int .i64 (c*256+e))∧w=w':=by
 have hl:=run_call_load (P:=Tryz.prog) Tryz.func88 (by kernel_rfl) (by kernel_rfl) (by kernel_rfl) .i64 (by kernel_rfl) h.c2
 have hc:=h.c2
 go_enter Tryz.func50,Tryz.ntmps50
 go_wp2
 go_ret
 exact⟨rfl,rfl⟩

theorem cas_n {b:Nat}{n k c e:Int}{w:World}(h:MB w b n k c e)(y:Int):
  Calls Tryz.prog 166 #[.pointer (some ⟨b,2,none⟩),.int .i64 (c*256+e),.int .i64 y] w fun r w'=>r= .returned (.bool true)∧w'=w.setCell ⟨b,2,none⟩ (.int .i64 y):=by
 have hl:=run_call_cas_hit (P:=Tryz.prog) Tryz.func197 (by kernel_rfl) (by kernel_rfl) (by kernel_rfl) .i64 (by kernel_rfl) (y:=y) h.c2 (h.f 2)
 have hc:=h.c2
 go_enter Tryz.func166,Tryz.ntmps166
 go_wp2
 go_ret
 exact⟨rfl,rfl⟩
end Go.Proofs.YtbgpddlcfiiiaaaGreatDoor
