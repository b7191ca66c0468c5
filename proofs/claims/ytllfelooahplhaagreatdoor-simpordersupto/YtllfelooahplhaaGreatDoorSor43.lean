/-
 Several texts in one: VA,VB,VC,VD,VE,VF,VG,VH,VI,VJ,VK,VL,VM,VN,VO,VP,VQ,VR.
-/
import Derived.Test.YtllfelooahplhaaGreatDoorSorT
import Derived.Test.YtllfelooahplhaaGreatDoorSor42
import Derived.Laws.EntriesVeiled
import Derived.Test.YtllfelooahplhaaGreatDoorSor27
import Derived.Test.YtllfelooahplhaaGreatDoorSor37
import Derived.Test.YtllfelooahplhaaGreatDoorSor22
import Derived.Test.YtllfelooahplhaaGreatDoorSor34
set_option maxRecDepth 100000
set_option maxHeartbeats 6400000
namespace Go.Proofs.YtllfelooahplhaaGreatDoor
open Go.RowKit Go.Sort Go.Shelf
open Tm At
namespace Nt

theorem Mkr.to {w0:World}{B B':Bl}{pa pm K:Nat}{nn kk:Int}{J:List Nd→Int→Int→Prop}{FR:St→Int→List Int→St × Int × Int→Prop}(h:Mkr w0 B pa pm K nn kk J FR)(e:B'.bn=B.bn):Mkr w0 B' pa pm K nn kk J FR:=
 ⟨h.eg,h.mo,h.kp,h.js,h.z0,fun w s F i x ks ka kc=>by rw[e];exact h.fn w s F i x ks ka kc⟩
def AnR (nn kk:Int)(J:List Nd→Int→Int→Prop)(FR:St→Int→List Int→St × Int × Int→Prop)(w w':World)(e:Ending)(pa pm:Nat)(s:St)(F:Nat→Prop)(id:Int):Prop:=
 ∃r,AO2 w w' e pa pm nn kk F r∧Kp kk s r∧(r.2.2=0→J r.1.L id r.2.1)∧((ndI s.L id).kids= []→okI s.L id→FR s id [] r)∧(¬okI s.L id→r=(s,0,80))∧(r.2.2≠0→r.2.1=0)
theorem anew_n {w0 w:World}{B0:Bl}{pa pm K:Nat}{nn kk:Int}{J:List Nd→Int→Int→Prop}{FR:St→Int→List Int→St × Int × Int→Prop}{s:St}{F:Nat→Prop}{id:Int}(hM:Mkr w0 B0 pa pm K nn kk J FR)(hE:EA w0 w pa pm nn kk s F)(hn:w.heap[B0.bn]? =some (.cells #[.pointer (some ⟨pa,0,none⟩)] 26 (0,0)))(hnF: ¬F B0.bn∧B0.bn≠pm)(hI:I64 id):
  Calls Tryz.prog 45 #[.pointer (some ⟨pa,0,none⟩),.int .i64 id,.func (.func K) #[] #[.pointer (some ⟨B0.bn,0,none⟩)]] w fun e w'=>AnR nn kk J FR w w' e pa pm s F id:=by
 have hmk:=run_makeMap (P:=Tryz.prog) 146 ((w.alloc (.cells #[.pointer (some ⟨pa,0,none⟩)] 26)).alloc (.cells #[.func (.func K) #[] #[.pointer (some ⟨B0.bn,0,none⟩)]] 145))
 have z1:(w.alloc (.cells #[.pointer (some ⟨pa,0,none⟩)] 26)).heap.size=w.heap.size+1:=by simp
 have z2:((w.alloc (.cells #[.pointer (some ⟨pa,0,none⟩)] 26)).alloc (.cells #[.func (.func K) #[] #[.pointer (some ⟨B0.bn,0,none⟩)]] 145)).heap.size=w.heap.size+1+1:=by simp
 have z3:(((w.alloc (.cells #[.pointer (some ⟨pa,0,none⟩)] 26)).alloc (.cells #[.func (.func K) #[] #[.pointer (some ⟨B0.bn,0,none⟩)]] 145)).alloc (.map #[] 0)).heap.size=w.heap.size+1+1+1:=by simp
 have z4:((((w.alloc (.cells #[.pointer (some ⟨pa,0,none⟩)] 26)).alloc (.cells #[.func (.func K) #[] #[.pointer (some ⟨B0.bn,0,none⟩)]] 145)).alloc (.map #[] 0)).alloc (.cells #[.map (some (w.heap.size+1+1))] 146)).heap.size=w.heap.size+1+1+1+1:=by simp
 have z5:(((((w.alloc (.cells #[.pointer (some ⟨pa,0,none⟩)] 26)).alloc (.cells #[.func (.func K) #[] #[.pointer (some ⟨B0.bn,0,none⟩)]] 145)).alloc (.map #[] 0)).alloc (.cells #[.map (some (w.heap.size+1+1))] 146)).alloc (.cells #[.func (.func 89) #[] #[.pointer (some ⟨w.heap.size+1+1+1,0,none⟩),.pointer (some ⟨w.heap.size,0,none⟩),.pointer (some ⟨w.heap.size+1+1+1+1,0,none⟩),.pointer (some ⟨w.heap.size+1,0,none⟩)]] 147)).heap.size=w.heap.size+1+1+1+1+1:=by simp
 have c1:=heap_alloc_new w (.cells #[.pointer (some ⟨pa,0,none⟩)] 26)
 have c2:=heap_alloc_new (w.alloc (.cells #[.pointer (some ⟨pa,0,none⟩)] 26)) (.cells #[.func (.func K) #[] #[.pointer (some ⟨B0.bn,0,none⟩)]] 145)
 have c3:(((w.alloc (.cells #[.pointer (some ⟨pa,0,none⟩)] 26)).alloc (.cells #[.func (.func K) #[] #[.pointer (some ⟨B0.bn,0,none⟩)]] 145)).alloc (.map #[] 0)).ownsMap Tryz.prog 3 (plainElem Tryz.prog 3) ((w.alloc (.cells #[.pointer (some ⟨pa,0,none⟩)] 26)).alloc (.cells #[.func (.func K) #[] #[.pointer (some ⟨B0.bn,0,none⟩)]] 145)).heap.size 0 (.map []:DataW Value):=World.ownsMap_made _ _ _ _
 have c4:=heap_alloc_new (((w.alloc (.cells #[.pointer (some ⟨pa,0,none⟩)] 26)).alloc (.cells #[.func (.func K) #[] #[.pointer (some ⟨B0.bn,0,none⟩)]] 145)).alloc (.map #[] 0)) (.cells #[.map (some (w.heap.size+1+1))] 146)
 have c5:=heap_alloc_new ((((w.alloc (.cells #[.pointer (some ⟨pa,0,none⟩)] 26)).alloc (.cells #[.func (.func K) #[] #[.pointer (some ⟨B0.bn,0,none⟩)]] 145)).alloc (.map #[] 0)).alloc (.cells #[.map (some (w.heap.size+1+1))] 146)) (.cells #[.func (.func 89) #[] #[.pointer (some ⟨w.heap.size+1+1+1,0,none⟩),.pointer (some ⟨w.heap.size,0,none⟩),.pointer (some ⟨w.heap.size+1+1+1+1,0,none⟩),.pointer (some ⟨w.heap.size+1,0,none⟩)]] 147)
 have b1:=below_alloc w (.cells #[.pointer (some ⟨pa,0,none⟩)] 26)
 have b2:=below_alloc (w.alloc (.cells #[.pointer (some ⟨pa,0,none⟩)] 26)) (.cells #[.func (.func K) #[] #[.pointer (some ⟨B0.bn,0,none⟩)]] 145)
 have b3:=below_alloc ((w.alloc (.cells #[.pointer (some ⟨pa,0,none⟩)] 26)).alloc (.cells #[.func (.func K) #[] #[.pointer (some ⟨B0.bn,0,none⟩)]] 145)) (.map #[] 0)
 have b4:=below_alloc (((w.alloc (.cells #[.pointer (some ⟨pa,0,none⟩)] 26)).alloc (.cells #[.func (.func K) #[] #[.pointer (some ⟨B0.bn,0,none⟩)]] 145)).alloc (.map #[] 0)) (.cells #[.map (some (w.heap.size+1+1))] 146)
 have b5:=below_alloc ((((w.alloc (.cells #[.pointer (some ⟨pa,0,none⟩)] 26)).alloc (.cells #[.func (.func K) #[] #[.pointer (some ⟨B0.bn,0,none⟩)]] 145)).alloc (.map #[] 0)).alloc (.cells #[.map (some (w.heap.size+1+1))] 146)) (.cells #[.func (.func 89) #[] #[.pointer (some ⟨w.heap.size+1+1+1,0,none⟩),.pointer (some ⟨w.heap.size,0,none⟩),.pointer (some ⟨w.heap.size+1+1+1+1,0,none⟩),.pointer (some ⟨w.heap.size+1,0,none⟩)]] 147)
 rw[z1]at c2
 rw[z2]at c3
 rw[z3]at c4
 rw[z4]at c5
 have k35:=grow_step b5 b4
 have k25:=grow_step k35 b3
 have k15:=grow_step k25 b2
 have k05:=grow_step k15 b1
 have d1:=(k15.block w.heap.size o_m).trans c1
 have d2:=(k25.block (w.heap.size+1) o_m).trans c2
 have d3:=c3.kept (gb_none k35) (by simp)
 have d4:=(b5.block (w.heap.size+1+1+1) o_m).trans c4
 clear c1 c2 c3 c4 b1 b2 b3 b4 b5 k35 k25 k15 z1 z2 z3 z4
 replace c5:=hide c5
 replace d1:=hide d1
 replace d2:=hide d2
 replace d3:=hide d3
 replace d4:=hide d4
 replace k05:=hide k05
 replace z5:=hide z5
 go_enter Tryz.func45,Tryz.ntmps45
 go_wp2_with fail
 clear hmk
 generalize ((((w.alloc (.cells #[.pointer (some ⟨pa,0,none⟩)] 26)).alloc (.cells #[.func (.func K) #[] #[.pointer (some ⟨B0.bn,0,none⟩)]] 145)).alloc (.map #[] 0)).alloc (.cells #[.map (some (w.heap.size+1+1))] 146)).alloc (.cells #[.func (.func 89) #[] #[.pointer (some ⟨w.heap.size+1+1+1,0,none⟩),.pointer (some ⟨w.heap.size,0,none⟩),.pointer (some ⟨w.heap.size+1+1+1+1,0,none⟩),.pointer (some ⟨w.heap.size+1,0,none⟩)]] 147)=w5 at*
 have hlt:=hE.g.mb.lt
 have hnl:=lt_of_block hn
 have hfl:=hE.g.fl
 have hkw:=hE.k.size
 have hvar: ∀b,Bl.var ⟨w.heap.size+1+1+1,w.heap.size,w.heap.size+1+1+1+1,w.heap.size+1,w.heap.size+1+1,B0.bn⟩ b→b=B0.bn∨w.heap.size≤b:=fun b hb=>by
  rcases hb with rfl|rfl|rfl|rfl|rfl
  ·exact .inr (by dsimp only;omega)
  ·exact .inr (by dsimp only;omega)
  ·exact .inr (by dsimp only;omega)
  ·exact .inr (by dsimp only;omega)
  exact .inl rfl
 have hCS:CS w0 ⟨w.heap.size+1+1+1,w.heap.size,w.heap.size+1+1+1+1,w.heap.size+1,w.heap.size+1+1,B0.bn⟩ pa pm K nn kk J w5 s F [] (.map []):=
  {
   e:=hE.below k05.out
   b:=⟨d4.out,d1.out,c5.out,d2.out,(k05.out.block _ hnl).trans hn⟩
   m:=d3.out
   nF:=fun b hb=>by
    rcases hb with hb|rfl
    ·rcases hvar b hb with rfl|h
     ·exact hnF
     exact⟨fun hf=>by have:=hfl b hf;omega,by omega⟩
    exact⟨fun hf=>by have:=hfl _ hf;dsimp only at this;omega,by dsimp only;omega⟩
   nm:=fun hb=>by
    unfold Bl.var at hb
    dsimp only at hb
    omega
   bl:=by have:=z5.out;dsimp only;omega
   b0:=by dsimp only;omega
   d:=fun x _=>by simp[Maps.has]
   j:=fun x hx=>absurd hx List.not_mem_nil
   nd:=List.nodup_nil}
 refine(come_n (hM.to (B':=⟨w.heap.size+1+1+1,w.heap.size,w.heap.size+1+1+1+1,w.heap.size+1,w.heap.size+1+1,B0.bn⟩) rfl) (id.toNat+1) id o_m hI w5 s F [] (.map []) hCS).mono ?_
 rintro e w6 ⟨r,F',Sn',D',rfl,hC6,hK6,hJ6,-,hf6,hb6,hl6,hn6,hz6⟩
 have hfin:Hid (AnR nn kk J FR w w6 (.returned (.tuple #[.int .i64 r.2.1,.int .i64 r.2.2])) pa pm s F id):=hide ⟨r,⟨rfl,F',hC6.e.g,fun b hb=>(hf6 b hb).imp (fun h=>h) (fun h=>by have:=k05.out.size;omega),ButF.trans (butF_below k05.out) hb6 fun b hb hg=>by
  rcases hg with hg|hg|hg
  ·exact .inl hg
  ·exact .inr hg
  dsimp only at hg
  omega⟩,hK6,hJ6,fun h1 h2=>hl6 h1 h2 List.not_mem_nil,fun h=>hn6 h List.not_mem_nil,hz6⟩
 clear hC6 hK6 hJ6 hf6 hb6 hl6 hn6 hz6 hCS hvar c5 d1 d2 d3 d4 k05 hE hM
 generalize r.2.1=y at*
 generalize r.2.2=er at*
 go_wp2_with fail
 refine bodyPost_ret (results_tmp2 rfl _ _ _) rfl ?_
 exact hfin.out
end Nt
namespace Nt

theorem limbs_succ (n:Nat):(limbs (n+1)).length≤(limbs n).length+1:=by
 induction n using Nat.strongRecOn with
 |_ n ih=>
  rw[limbs_def (n+1),dif_neg o_m,List.length_cons]
  by_cases h:n=0
  ·subst h
   rw[show(0+1) / 4294967296=0 by decide,limbs_def 0,dif_pos rfl]
   simp
  rw[limbs_def n,dif_neg h,List.length_cons]
  rcases(show(n+1) / 4294967296=n / 4294967296∨(n+1) / 4294967296=n / 4294967296+1 by omega)with e|e
  ·rw[e]
   omega
  rw[e]
  have:=ih (n / 4294967296) o_m
  omega
theorem limbs_mono : ∀(m n:Nat),n≤m→(limbs n).length≤(limbs m).length:=by
 intro m
 induction m using Nat.strongRecOn with
 |_ m ih=>
  intro n h
  by_cases h0:n=0
  ·subst h0
   rw[limbs_def 0,dif_pos rfl]
   simp
  rw[limbs_def n,dif_neg h0,limbs_def m,dif_neg o_m,List.length_cons,List.length_cons]
  have:=ih (m / 4294967296) o_m (n / 4294967296) o_m
  omega
theorem lim_one (k:Int):lim (1-k)≤lim k+1:=by
 unfold lim
 by_cases h:0<k
 ·have:=limbs_mono k.natAbs (1-k).natAbs o_m
  omega
 rw[show(1-k).natAbs=k.natAbs+1 by omega]
 exact limbs_succ _
theorem lim_neg (k:Int):lim (-1*k)=lim k:=by
 unfold lim
 rw[show(-1*k).natAbs=k.natAbs by omega]
theorem negA_nums {a:Atm}{B:Nat}(h: ∀z∈nums (ndA a),lim z≤B): ∀z∈nums (ndA (negA a)),lim z≤B+1:=by
 have hd:lim a.d≤B:=h _ (by simp[nums,ndA])
 have hk:lim a.k≤B:=h _ (by simp[nums,ndA])
 have hp: ∀p∈a.ps,lim p.2≤B:=fun p hp=>h _ (by unfold nums ndA;exact List.mem_cons_of_mem _ (List.mem_cons_of_mem _ (List.mem_map_of_mem hp)))
 have hg: ∀kd d ps k,lim d≤B+1→lim k≤B+1→(∀p∈ps,lim p.2≤B+1)→∀z∈nums (ndA ⟨kd,d,ps,k⟩),lim z≤B+1:=fun kd d ps k h1 h2 h3 z hz=>by
  unfold nums ndA at hz
  rcases List.mem_cons.1 hz with rfl|hz
  ·exact h1
  rcases List.mem_cons.1 hz with rfl|hz
  ·exact h2
  obtain⟨p,hp,rfl⟩:=List.mem_map.1 hz
  exact h3 p hp
 have hsame: ∀kd,∀z∈nums (ndA ⟨kd,a.d,a.ps,a.k⟩),lim z≤B+1:=fun kd=>hg kd _ _ _ o_m o_m fun p hp'=>by have:=hp p hp';omega
 unfold negA
 split
 ·exact hsame 1
 split
 ·exact hsame 0
 split
 ·refine hg 2 0 _ _ (by rw[lim_0];omega) (by have:=lim_one a.k;omega) fun p hp'=> ?_
  obtain⟨q,hq,rfl⟩:=List.mem_map.1 hp'
  dsimp only
  rw[lim_neg]
  have:=hp q hq
  omega
 split
 ·exact hsame 4
 split
 ·exact hsame 3
 exact hsame a.kind
theorem actA_neg {nn kk:Int}{s:St}{a:Atm}(h:Fit a):actA nn kk s (negA a).kind (negA a).d (negA a).ps (negA a).k=putE nn kk s (ndA (negA a)):=by
 unfold actA
 rw[←lays_eq h.neg.std fun _=>rfl,h.neg.again]
 rfl
theorem keepF {w w':World}{F:Nat→Prop}{pm b:Nat}(h:ButF (fun b=>b=pm∨F b) w w')(hb:b<w.heap.size)(hn: ¬F b∧b≠pm):w'.heap[b]? =w.heap[b]?:=h.block b hb fun e=>e.elim hn.2 hn.1
theorem negate5 {w0 w:World}{pa pm bn:Nat}{nn kk:Int}{s:St}{F:Nat→Prop}{i:Int}{x:NR}{ks:List Int}{ka:Option Addr}{kc:Nat}(hE:EA w0 w pa pm nn kk s F)(hn:w.heap[bn]? =some (.cells #[.pointer (some ⟨pa,0,none⟩)] 26 (0,0)))(_hnF: ¬F bn∧bn≠pm)(hi:okI s.L i)(hk:(ndI s.L i).kind=5)(hN:NC (fun _=>True) w x (ndI s.L i) 1048576)(hI:IL w ka ks.length ks)(_hok: ∀k∈ks,okI s.L k)(hkl:ks.length=(ndI s.L i).kids.length)(_hkF:InF (fun b=> ¬F b∧b≠pm) ka ks.length):
  Calls Tryz.prog 46 #[.int .i64 i,.agg (nE x),.slice ka ks.length kc,.pointer (some ⟨bn,0,none⟩)] w fun e w'=> ∃r,NegR nn kk s i ks r∧AO2 w w' e pa pm nn kk F r:=by
 obtain⟨kd,sd,ad,ld,cd,ap,np,cp,sk,ak,lk,ck,vr,kka,kkn,kkc⟩:=x
 have hke:kd=(ndI s.L i).kind:=hN.kd
 have hve:vr=(ndI s.L i).var:=hN.vr
 obtain rfl:kd=5:=hke.trans hk
 have b1:=below_alloc w (.cells #[.int .i64 5,.bool sd,.slice ad ld cd,.slice ap np cp,.bool sk,.slice ak lk ck,.int .i64 vr,.slice kka kkn kkc] 77)
 have y1:NB (w.alloc (.cells #[.int .i64 5,.bool sd,.slice ad ld cd,.slice ap np cp,.bool sk,.slice ak lk ck,.int .i64 vr,.slice kka kkn kkc] 77)) w.heap.size 5 sd ad ld cd ap np cp sk ak lk ck vr kka kkn kkc:=NB.new w _ _ _ _ _ _ _ _ _ _ _ _ _ _ _ _
 have hE1:=hE.below b1
 have hI1:=hI.below b1
 have hn1:(w.alloc (.cells #[.int .i64 5,.bool sd,.slice ad ld cd,.slice ap np cp,.bool sk,.slice ak lk ck,.int .i64 vr,.slice kka kkn kkc] 77)).heap[bn]? =some (.cells #[.pointer (some ⟨pa,0,none⟩)] 26 (0,0)):=(b1.block bn (lt_of_block hn)).trans hn
 have un:=cell_of_row _ bn 0 _ _ (0,0) hn1
 have hfl:=hE.g.fl
 have hpl:=hE.g.mb.lt
 have hbF: ¬F w.heap.size∧w.heap.size≠pm:=⟨fun h=>by have:=hfl _ h;omega,by omega⟩
 have hkd:=hE.v.kinds hi
 have hvI:I64 vr:=hve▸hE.v.var hi
 have hksl:ks.length≤2002:=by
  have h1:=(hE.v.kids hi).1
  have h2:=hi.2
  have h3:=hE.g.ln
  have h4:=hE.g.cn
  have h5:=hE.g.n2
  omega
 have hbnl:=lt_of_block hn
 replace b1:=hide b1
 simp only[nE]
 have hcall:=hide (or9_n (kc:=kc) hE1.g hE1.v hE1.k0 (by have:=hE1.k8;omega) hI1 o_m hE1.tab)
 have hend:Hid (∀e w',SJ (w.alloc (.cells #[.int .i64 5,.bool sd,.slice ad ld cd,.slice ap np cp,.bool sk,.slice ak lk ck,.int .i64 vr,.slice kka kkn kkc] 77)) w' e pa pm nn kk F s 6 5 0 1 (-1) ks→∃r,NegR nn kk s i ks r∧AO2 w w' e pa pm nn kk F r):=hide fun e w' ⟨r,h1,h2⟩=>⟨r,.inl ⟨hk,h1⟩,ao2_back b1.out h2⟩
 clear hE hE1 hN hI hI1 hn hn1 _hkF hkd hk hke hve hkl
 go_enter Tryz.func46,Tryz.ntmps46
 go_wp2_with fail
 refine hcall.out.mono ?_
 rintro e w2 h2
 have h3:=hide (hend.out e w2 h2)
 obtain⟨r,-,rfl,-⟩:=h2
 clear hcall hend
 go_wp2_with fail
 refine bodyPost_ret (results_tmp2 rfl _ _ _) rfl ?_
 exact h3.out
theorem negate6 {w0 w:World}{pa pm bn:Nat}{nn kk:Int}{s:St}{F:Nat→Prop}{i:Int}{x:NR}{ks:List Int}{ka:Option Addr}{kc:Nat}(hE:EA w0 w pa pm nn kk s F)(hn:w.heap[bn]? =some (.cells #[.pointer (some ⟨pa,0,none⟩)] 26 (0,0)))(_hnF: ¬F bn∧bn≠pm)(hi:okI s.L i)(hk:(ndI s.L i).kind=6)(hN:NC (fun _=>True) w x (ndI s.L i) 1048576)(hI:IL w ka ks.length ks)(_hok: ∀k∈ks,okI s.L k)(hkl:ks.length=(ndI s.L i).kids.length)(_hkF:InF (fun b=> ¬F b∧b≠pm) ka ks.length):
  Calls Tryz.prog 46 #[.int .i64 i,.agg (nE x),.slice ka ks.length kc,.pointer (some ⟨bn,0,none⟩)] w fun e w'=> ∃r,NegR nn kk s i ks r∧AO2 w w' e pa pm nn kk F r:=by
 obtain⟨kd,sd,ad,ld,cd,ap,np,cp,sk,ak,lk,ck,vr,kka,kkn,kkc⟩:=x
 have hke:kd=(ndI s.L i).kind:=hN.kd
 have hve:vr=(ndI s.L i).var:=hN.vr
 obtain rfl:kd=6:=hke.trans hk
 have b1:=below_alloc w (.cells #[.int .i64 6,.bool sd,.slice ad ld cd,.slice ap np cp,.bool sk,.slice ak lk ck,.int .i64 vr,.slice kka kkn kkc] 77)
 have y1:NB (w.alloc (.cells #[.int .i64 6,.bool sd,.slice ad ld cd,.slice ap np cp,.bool sk,.slice ak lk ck,.int .i64 vr,.slice kka kkn kkc] 77)) w.heap.size 6 sd ad ld cd ap np cp sk ak lk ck vr kka kkn kkc:=NB.new w _ _ _ _ _ _ _ _ _ _ _ _ _ _ _ _
 have hE1:=hE.below b1
 have hI1:=hI.below b1
 have hn1:(w.alloc (.cells #[.int .i64 6,.bool sd,.slice ad ld cd,.slice ap np cp,.bool sk,.slice ak lk ck,.int .i64 vr,.slice kka kkn kkc] 77)).heap[bn]? =some (.cells #[.pointer (some ⟨pa,0,none⟩)] 26 (0,0)):=(b1.block bn (lt_of_block hn)).trans hn
 have un:=cell_of_row _ bn 0 _ _ (0,0) hn1
 have hfl:=hE.g.fl
 have hpl:=hE.g.mb.lt
 have hbF: ¬F w.heap.size∧w.heap.size≠pm:=⟨fun h=>by have:=hfl _ h;omega,by omega⟩
 have hkd:=hE.v.kinds hi
 have hvI:I64 vr:=hve▸hE.v.var hi
 have hksl:ks.length≤2002:=by
  have h1:=(hE.v.kids hi).1
  have h2:=hi.2
  have h3:=hE.g.ln
  have h4:=hE.g.cn
  have h5:=hE.g.n2
  omega
 have hbnl:=lt_of_block hn
 replace b1:=hide b1
 simp only[nE]
 have hcall:=hide (and9_n (kc:=kc) hE1.g hE1.v hE1.k0 (by have:=hE1.k8;omega) hI1 o_m hE1.tab)
 have hend:Hid (∀e w',SJ (w.alloc (.cells #[.int .i64 6,.bool sd,.slice ad ld cd,.slice ap np cp,.bool sk,.slice ak lk ck,.int .i64 vr,.slice kka kkn kkc] 77)) w' e pa pm nn kk F s 5 6 1 0 1 ks→∃r,NegR nn kk s i ks r∧AO2 w w' e pa pm nn kk F r):=hide fun e w' ⟨r,h1,h2⟩=>⟨r,.inr (.inl ⟨hk,h1⟩),ao2_back b1.out h2⟩
 clear hE hE1 hN hI hI1 hn hn1 _hkF hkd hk hke hve hkl
 go_enter Tryz.func46,Tryz.ntmps46
 go_wp2_with fail
 refine hcall.out.mono ?_
 rintro e w2 h2
 have h3:=hide (hend.out e w2 h2)
 obtain⟨r,-,rfl,-⟩:=h2
 clear hcall hend
 go_wp2_with fail
 refine bodyPost_ret (results_tmp2 rfl _ _ _) rfl ?_
 exact h3.out
theorem again5 {w0 w:World}{pa pm bn:Nat}{nn kk:Int}{s:St}{F:Nat→Prop}{i:Int}{x:NR}{ks:List Int}{ka:Option Addr}{kc:Nat}(hE:EA w0 w pa pm nn kk s F)(hn:w.heap[bn]? =some (.cells #[.pointer (some ⟨pa,0,none⟩)] 26 (0,0)))(_hnF: ¬F bn∧bn≠pm)(hi:okI s.L i)(hk:(ndI s.L i).kind=5)(hN:NC (fun _=>True) w x (ndI s.L i) 1048576)(hI:IL w ka ks.length ks)(_hok: ∀k∈ks,okI s.L k)(hkl:ks.length=(ndI s.L i).kids.length)(_hkF:InF (fun b=> ¬F b∧b≠pm) ka ks.length):
  Calls Tryz.prog 48 #[.int .i64 i,.agg (nE x),.slice ka ks.length kc,.pointer (some ⟨bn,0,none⟩)] w fun e w'=> ∃r,AgR nn kk s i ks r∧AO2 w w' e pa pm nn kk F r:=by
 obtain⟨kd,sd,ad,ld,cd,ap,np,cp,sk,ak,lk,ck,vr,kka,kkn,kkc⟩:=x
 have hke:kd=(ndI s.L i).kind:=hN.kd
 have hve:vr=(ndI s.L i).var:=hN.vr
 obtain rfl:kd=5:=hke.trans hk
 have b1:=below_alloc w (.cells #[.int .i64 5,.bool sd,.slice ad ld cd,.slice ap np cp,.bool sk,.slice ak lk ck,.int .i64 vr,.slice kka kkn kkc] 77)
 have y1:NB (w.alloc (.cells #[.int .i64 5,.bool sd,.slice ad ld cd,.slice ap np cp,.bool sk,.slice ak lk ck,.int .i64 vr,.slice kka kkn kkc] 77)) w.heap.size 5 sd ad ld cd ap np cp sk ak lk ck vr kka kkn kkc:=NB.new w _ _ _ _ _ _ _ _ _ _ _ _ _ _ _ _
 have hE1:=hE.below b1
 have hI1:=hI.below b1
 have hn1:(w.alloc (.cells #[.int .i64 5,.bool sd,.slice ad ld cd,.slice ap np cp,.bool sk,.slice ak lk ck,.int .i64 vr,.slice kka kkn kkc] 77)).heap[bn]? =some (.cells #[.pointer (some ⟨pa,0,none⟩)] 26 (0,0)):=(b1.block bn (lt_of_block hn)).trans hn
 have un:=cell_of_row _ bn 0 _ _ (0,0) hn1
 have hfl:=hE.g.fl
 have hpl:=hE.g.mb.lt
 have hbF: ¬F w.heap.size∧w.heap.size≠pm:=⟨fun h=>by have:=hfl _ h;omega,by omega⟩
 have hkd:=hE.v.kinds hi
 have hvI:I64 vr:=hve▸hE.v.var hi
 have hksl:ks.length≤2002:=by
  have h1:=(hE.v.kids hi).1
  have h2:=hi.2
  have h3:=hE.g.ln
  have h4:=hE.g.cn
  have h5:=hE.g.n2
  omega
 have hbnl:=lt_of_block hn
 replace b1:=hide b1
 simp only[nE]
 have hcall:=hide (and9_n (kc:=kc) hE1.g hE1.v hE1.k0 (by have:=hE1.k8;omega) hI1 o_m hE1.tab)
 have hend:Hid (∀e w',SJ (w.alloc (.cells #[.int .i64 5,.bool sd,.slice ad ld cd,.slice ap np cp,.bool sk,.slice ak lk ck,.int .i64 vr,.slice kka kkn kkc] 77)) w' e pa pm nn kk F s 5 6 1 0 1 ks→∃r,AgR nn kk s i ks r∧AO2 w w' e pa pm nn kk F r):=hide fun e w' ⟨r,h1,h2⟩=>⟨r,.inl ⟨hk,h1⟩,ao2_back b1.out h2⟩
 clear hE hE1 hN hI hI1 hn hn1 _hkF hkd hk hke hve hkl
 go_enter Tryz.func48,Tryz.ntmps48
 go_wp2_with fail
 refine hcall.out.mono ?_
 rintro e w2 h2
 have h3:=hide (hend.out e w2 h2)
 obtain⟨r,-,rfl,-⟩:=h2
 clear hcall hend
 go_wp2_with fail
 refine bodyPost_ret (results_tmp2 rfl _ _ _) rfl ?_
 exact h3.out
theorem again6 {w0 w:World}{pa pm bn:Nat}{nn kk:Int}{s:St}{F:Nat→Prop}{i:Int}{x:NR}{ks:List Int}{ka:Option Addr}{kc:Nat}(hE:EA w0 w pa pm nn kk s F)(hn:w.heap[bn]? =some (.cells #[.pointer (some ⟨pa,0,none⟩)] 26 (0,0)))(_hnF: ¬F bn∧bn≠pm)(hi:okI s.L i)(hk:(ndI s.L i).kind=6)(hN:NC (fun _=>True) w x (ndI s.L i) 1048576)(hI:IL w ka ks.length ks)(_hok: ∀k∈ks,okI s.L k)(hkl:ks.length=(ndI s.L i).kids.length)(_hkF:InF (fun b=> ¬F b∧b≠pm) ka ks.length):
  Calls Tryz.prog 48 #[.int .i64 i,.agg (nE x),.slice ka ks.length kc,.pointer (some ⟨bn,0,none⟩)] w fun e w'=> ∃r,AgR nn kk s i ks r∧AO2 w w' e pa pm nn kk F r:=by
 obtain⟨kd,sd,ad,ld,cd,ap,np,cp,sk,ak,lk,ck,vr,kka,kkn,kkc⟩:=x
 have hke:kd=(ndI s.L i).kind:=hN.kd
 have hve:vr=(ndI s.L i).var:=hN.vr
 obtain rfl:kd=6:=hke.trans hk
 have b1:=below_alloc w (.cells #[.int .i64 6,.bool sd,.slice ad ld cd,.slice ap np cp,.bool sk,.slice ak lk ck,.int .i64 vr,.slice kka kkn kkc] 77)
 have y1:NB (w.alloc (.cells #[.int .i64 6,.bool sd,.slice ad ld cd,.slice ap np cp,.bool sk,.slice ak lk ck,.int .i64 vr,.slice kka kkn kkc] 77)) w.heap.size 6 sd ad ld cd ap np cp sk ak lk ck vr kka kkn kkc:=NB.new w _ _ _ _ _ _ _ _ _ _ _ _ _ _ _ _
 have hE1:=hE.below b1
 have hI1:=hI.below b1
 have hn1:(w.alloc (.cells #[.int .i64 6,.bool sd,.slice ad ld cd,.slice ap np cp,.bool sk,.slice ak lk ck,.int .i64 vr,.slice kka kkn kkc] 77)).heap[bn]? =some (.cells #[.pointer (some ⟨pa,0,none⟩)] 26 (0,0)):=(b1.block bn (lt_of_block hn)).trans hn
 have un:=cell_of_row _ bn 0 _ _ (0,0) hn1
 have hfl:=hE.g.fl
 have hpl:=hE.g.mb.lt
 have hbF: ¬F w.heap.size∧w.heap.size≠pm:=⟨fun h=>by have:=hfl _ h;omega,by omega⟩
 have hkd:=hE.v.kinds hi
 have hvI:I64 vr:=hve▸hE.v.var hi
 have hksl:ks.length≤2002:=by
  have h1:=(hE.v.kids hi).1
  have h2:=hi.2
  have h3:=hE.g.ln
  have h4:=hE.g.cn
  have h5:=hE.g.n2
  omega
 have hbnl:=lt_of_block hn
 replace b1:=hide b1
 simp only[nE]
 have hcall:=hide (or9_n (kc:=kc) hE1.g hE1.v hE1.k0 (by have:=hE1.k8;omega) hI1 o_m hE1.tab)
 have hend:Hid (∀e w',SJ (w.alloc (.cells #[.int .i64 6,.bool sd,.slice ad ld cd,.slice ap np cp,.bool sk,.slice ak lk ck,.int .i64 vr,.slice kka kkn kkc] 77)) w' e pa pm nn kk F s 6 5 0 1 (-1) ks→∃r,AgR nn kk s i ks r∧AO2 w w' e pa pm nn kk F r):=hide fun e w' ⟨r,h1,h2⟩=>⟨r,.inr (.inl ⟨hk,h1⟩),ao2_back b1.out h2⟩
 clear hE hE1 hN hI hI1 hn hn1 _hkF hkd hk hke hve hkl
 go_enter Tryz.func48,Tryz.ntmps48
 go_wp2_with fail
 refine hcall.out.mono ?_
 rintro e w2 h2
 have h3:=hide (hend.out e w2 h2)
 obtain⟨r,-,rfl,-⟩:=h2
 clear hcall hend
 go_wp2_with fail
 refine bodyPost_ret (results_tmp2 rfl _ _ _) rfl ?_
 exact h3.out
theorem again0 {w0 w:World}{pa pm bn:Nat}{nn kk:Int}{s:St}{F:Nat→Prop}{i:Int}{x:NR}{ks:List Int}{ka:Option Addr}{kc:Nat}(hE:EA w0 w pa pm nn kk s F)(hn:w.heap[bn]? =some (.cells #[.pointer (some ⟨pa,0,none⟩)] 26 (0,0)))(_hnF: ¬F bn∧bn≠pm)(hi:okI s.L i)(hk:(ndI s.L i).kind<5)(hN:NC (fun _=>True) w x (ndI s.L i) 1048576)(hI:IL w ka ks.length ks)(_hok: ∀k∈ks,okI s.L k)(hkl:ks.length=(ndI s.L i).kids.length)(_hkF:InF (fun b=> ¬F b∧b≠pm) ka ks.length):
  Calls Tryz.prog 48 #[.int .i64 i,.agg (nE x),.slice ka ks.length kc,.pointer (some ⟨bn,0,none⟩)] w fun e w'=> ∃r,AgR nn kk s i ks r∧AO2 w w' e pa pm nn kk F r:=by
 obtain⟨kd,sd,ad,ld,cd,ap,np,cp,sk,ak,lk,ck,vr,kka,kkn,kkc⟩:=x
 have hke:kd=(ndI s.L i).kind:=hN.kd
 have hve:vr=(ndI s.L i).var:=hN.vr
 have b1:=below_alloc w (.cells #[.int .i64 kd,.bool sd,.slice ad ld cd,.slice ap np cp,.bool sk,.slice ak lk ck,.int .i64 vr,.slice kka kkn kkc] 77)
 have y1:NB (w.alloc (.cells #[.int .i64 kd,.bool sd,.slice ad ld cd,.slice ap np cp,.bool sk,.slice ak lk ck,.int .i64 vr,.slice kka kkn kkc] 77)) w.heap.size kd sd ad ld cd ap np cp sk ak lk ck vr kka kkn kkc:=NB.new w _ _ _ _ _ _ _ _ _ _ _ _ _ _ _ _
 have hE1:=hE.below b1
 have hI1:=hI.below b1
 have hn1:(w.alloc (.cells #[.int .i64 kd,.bool sd,.slice ad ld cd,.slice ap np cp,.bool sk,.slice ak lk ck,.int .i64 vr,.slice kka kkn kkc] 77)).heap[bn]? =some (.cells #[.pointer (some ⟨pa,0,none⟩)] 26 (0,0)):=(b1.block bn (lt_of_block hn)).trans hn
 have un:=cell_of_row _ bn 0 _ _ (0,0) hn1
 have hfl:=hE.g.fl
 have hpl:=hE.g.mb.lt
 have hbF: ¬F w.heap.size∧w.heap.size≠pm:=⟨fun h=>by have:=hfl _ h;omega,by omega⟩
 have hkd:=hE.v.kinds hi
 have hvI:I64 vr:=hve▸hE.v.var hi
 have hksl:ks.length≤2002:=by
  have h1:=(hE.v.kids hi).1
  have h2:=hi.2
  have h3:=hE.g.ln
  have h4:=hE.g.cn
  have h5:=hE.g.n2
  omega
 have hbnl:=lt_of_block hn
 replace b1:=hide b1
 simp only[nE]
 have h5: ¬kd=5:=by omega
 have h6: ¬kd=6:=by omega
 have h7: ¬kd=7:=by omega
 have h8: ¬kd=8:=by omega
 have hfin:Hid (∃r,AgR nn kk s i ks r∧AO2 w (w.alloc (.cells #[.int .i64 kd,.bool sd,.slice ad ld cd,.slice ap np cp,.bool sk,.slice ak lk ck,.int .i64 vr,.slice kka kkn kkc] 77)) (.returned (.tuple #[.int .i64 i,.int .i64 0])) pa pm nn kk F r):=hide ⟨(s,i,0),.inr (.inr (.inr ⟨hk,rfl⟩)),ao2_now hE.g b1.out i 0⟩
 clear hE hE1 hN hI hI1 hn hn1 _hkF hkd hk hke hve hkl
 go_enter Tryz.func48,Tryz.ntmps48
 go_wp2_with fail
 refine bodyPost_ret (results_tmp2 rfl _ _ _) rfl ?_
 exact hfin.out
end Nt
namespace Nt
theorem negate7 {w0 w:World}{pa pm bn:Nat}{nn kk:Int}{s:St}{F:Nat→Prop}{i:Int}{x:NR}{ks:List Int}{ka:Option Addr}{kc:Nat}(hE:EA w0 w pa pm nn kk s F)(hn:w.heap[bn]? =some (.cells #[.pointer (some ⟨pa,0,none⟩)] 26 (0,0)))(hnF: ¬F bn∧bn≠pm)(hi:okI s.L i)(hk:(ndI s.L i).kind=7)(hN:NC (fun _=>True) w x (ndI s.L i) 1048576)(hI:IL w ka ks.length ks)(hok: ∀k∈ks,okI s.L k)(hkl:ks.length=(ndI s.L i).kids.length)(hkF:InF (fun b=> ¬F b∧b≠pm) ka ks.length):
  Calls Tryz.prog 46 #[.int .i64 i,.agg (nE x),.slice ka ks.length kc,.pointer (some ⟨bn,0,none⟩)] w fun e w'=> ∃r,NegR nn kk s i ks r∧AO2 w w' e pa pm nn kk F r:=by
 obtain⟨kd,sd,ad,ld,cd,ap,np,cp,sk,ak,lk,ck,vr,kka,kkn,kkc⟩:=x
 have hke:kd=(ndI s.L i).kind:=hN.kd
 have hve:vr=(ndI s.L i).var:=hN.vr
 obtain rfl:kd=7:=hke.trans hk
 have b1:=below_alloc w (.cells #[.int .i64 7,.bool sd,.slice ad ld cd,.slice ap np cp,.bool sk,.slice ak lk ck,.int .i64 vr,.slice kka kkn kkc] 77)
 have y1:NB (w.alloc (.cells #[.int .i64 7,.bool sd,.slice ad ld cd,.slice ap np cp,.bool sk,.slice ak lk ck,.int .i64 vr,.slice kka kkn kkc] 77)) w.heap.size 7 sd ad ld cd ap np cp sk ak lk ck vr kka kkn kkc:=NB.new w _ _ _ _ _ _ _ _ _ _ _ _ _ _ _ _
 have hE1:=hE.below b1
 have hI1:=hI.below b1
 have hn1:(w.alloc (.cells #[.int .i64 7,.bool sd,.slice ad ld cd,.slice ap np cp,.bool sk,.slice ak lk ck,.int .i64 vr,.slice kka kkn kkc] 77)).heap[bn]? =some (.cells #[.pointer (some ⟨pa,0,none⟩)] 26 (0,0)):=(b1.block bn (lt_of_block hn)).trans hn
 have un:=cell_of_row _ bn 0 _ _ (0,0) hn1
 have hfl:=hE.g.fl
 have hpl:=hE.g.mb.lt
 have hbF: ¬F w.heap.size∧w.heap.size≠pm:=⟨fun h=>by have:=hfl _ h;omega,by omega⟩
 have hkd:=hE.v.kinds hi
 have hvI:I64 vr:=hve▸hE.v.var hi
 have hksl:ks.length≤2002:=by
  have h1:=(hE.v.kids hi).1
  have h2:=hi.2
  have h3:=hE.g.ln
  have h4:=hE.g.cn
  have h5:=hE.g.n2
  omega
 have hbnl:=lt_of_block hn
 replace b1:=hide b1
 simp only[nE]
 obtain⟨x0,hx0,_⟩:=hE.v.quant hi o_m
 rw[hx0]at hkl
 obtain⟨y,rfl⟩: ∃y,ks= [y]:=by
  rcases ks with _|⟨y,_|⟨z,t⟩⟩
  ·simp at hkl
  ·exact⟨y,rfl⟩
  simp at hkl
 have hyk:=hok y (by simp)
 have hyI:I64 y:=by
  have h1:=hyk.1
  have h2:=hyk.2
  have h3:=hE.g.ln
  have h4:=hE.g.cn
  have h5:=hE.g.n2
  unfold I64
  omega
 obtain⟨kb,ko,rfl,hkb,hkc⟩: ∃kb ko,ka=some ⟨kb,ko,none⟩∧kb<w.heap.size∧w.cell? ⟨kb,ko,none⟩=some (.int .i64 y):=by
  rcases hI.2 with h0|⟨kb,ko,e,h1,h2⟩
  ·simp at h0
  exact⟨kb,ko,e,h1,by simpa using (h2 0 (by simp)).1⟩
 have hkF2:=hkF kb ko rfl (by simp)
 have hS:Hid (∀w',Below (w.alloc (.cells #[.int .i64 7,.bool sd,.slice ad ld cd,.slice ap np cp,.bool sk,.slice ak lk ck,.int .i64 vr,.slice kka kkn kkc] 77)).heap.size (w.alloc (.cells #[.int .i64 7,.bool sd,.slice ad ld cd,.slice ap np cp,.bool sk,.slice ak lk ck,.int .i64 vr,.slice kka kkn kkc] 77)) w'→w'.cell? ⟨bn,0,none⟩=some (.pointer (some ⟨pa,0,none⟩))∧w'.cell? ⟨w.heap.size,0,none⟩=some (.int .i64 7)∧w'.cell? ⟨w.heap.size,6,none⟩=some (.int .i64 vr)∧w'.cell? ⟨kb,ko,none⟩=some (.int .i64 y)):=hide fun w' k=>by
  have y2:=y1.below k
  exact⟨cell_of_row _ bn 0 _ _ (0,0) ((k.block bn (lt_of_block hn1)).trans hn1),y2.c0,y2.c6,((grow_step k b1.out).cell (p:=⟨kb,ko,none⟩) hkb).trans hkc⟩
 have hSa:Hid (∀w',ButF (fun b=>b=pm∨F b) (w.alloc (.cells #[.int .i64 7,.bool sd,.slice ad ld cd,.slice ap np cp,.bool sk,.slice ak lk ck,.int .i64 vr,.slice kka kkn kkc] 77)).drew w'→w'.cell? ⟨bn,0,none⟩=some (.pointer (some ⟨pa,0,none⟩))∧w'.cell? ⟨w.heap.size,0,none⟩=some (.int .i64 7)∧w'.cell? ⟨w.heap.size,6,none⟩=some (.int .i64 vr)∧w'.cell? ⟨kb,ko,none⟩=some (.int .i64 y)):=hide fun w' k=>by
  have hsz:=b1.out.size
  have y2:NB w' w.heap.size 7 sd ad ld cd ap np cp sk ak lk ck vr kka kkn kkc:=(keepF k (lt_of_block y1) hbF).trans y1
  exact⟨cell_of_row _ bn 0 _ _ (0,0) ((keepF k (lt_of_block hn1) hnF).trans hn1),y2.c0,y2.c6,(World.cell?_of_block (a:=⟨kb,ko,none⟩) (keepF k (Nat.lt_of_lt_of_le hkb hsz) hkF2)).trans ((b1.out.cell (p:=⟨kb,ko,none⟩) hkb).trans hkc)⟩
 have hbind:Hid (∀w',Below (w.alloc (.cells #[.int .i64 7,.bool sd,.slice ad ld cd,.slice ap np cp,.bool sk,.slice ak lk ck,.int .i64 vr,.slice kka kkn kkc] 77)).heap.size (w.alloc (.cells #[.int .i64 7,.bool sd,.slice ad ld cd,.slice ap np cp,.bool sk,.slice ak lk ck,.int .i64 vr,.slice kka kkn kkc] 77)) w'→Calls Tryz.prog 41 #[.pointer (some ⟨pa,0,none⟩),.int .i64 8,.int .i64 vr,.int .i64 y] w' fun e w''=>AO2 w' w'' e pa pm nn kk F (actB nn kk s 8 vr y)):=hide fun w' k=>bind_ao2 (hE1.below k).g hvI hyI (hE1.below k).tab
 have hrel:Hid (NegR nn kk s i [y] (actB nn kk s 8 vr y)):=hide (by rw[hve];exact .inr (.inr (.inl ⟨hk,rfl⟩)))
 clear hE hE1 hN hI hI1 hn hn1 hkF hkc hkd hk hke hve hkl
 go_enter Tryz.func46,Tryz.ntmps46
 go_wp2_with fail
 refine wp_region_held_drew (S:=fun w'=>w'.cell? ⟨bn,0,none⟩=some (.pointer (some ⟨pa,0,none⟩))∧w'.cell? ⟨w.heap.size,0,none⟩=some (.int .i64 7)∧w'.cell? ⟨w.heap.size,6,none⟩=some (.int .i64 vr)∧w'.cell? ⟨kb,ko,none⟩=some (.int .i64 y)) k_f (hS.out _ (below_drew2 (Below.refl _ _))) (fun hHeld=> ?_)
 show wpAnyH _ _ _ _ _ 11 _ _ _
 refine tkz 0 27 ?_
 (try simp only[pz])
 refine tkz 1 28 ?_
 (try simp only[pz])
 refine tkz 2 29 ?_
 (try simp only[pz])
 refine tkz 3 30 ?_
 (try simp only[pz])
 refine tkz 4 31 ?_
 (try simp only[pz])
 refine tkz 5 32 ?_
 (try simp only[pz])
 refine ryz 6 (some 33) (fun K' hK=> ?_) AllReadyH.nil
 clear hHeld
 rw[if_pos k_f]
 go_simp
 refine Calls.mono (hbind.out _ (below_drew2 (Below.refl _ _))) ?_
 rintro e w2 ⟨rfl,F',hG',hF',hB'⟩
 have hS2:=hide (hSa.out w2 hB')
 have hfin:Hid (∃r,NegR nn kk s i [y] r∧AO2 w w2 (.returned (.tuple #[.int .i64 (actB nn kk s 8 vr y).2.1,.int .i64 (actB nn kk s 8 vr y).2.2])) pa pm nn kk F r):=hide ⟨actB nn kk s 8 vr y,hrel.out,ao2_back (below_drew2 b1.out) ⟨rfl,F',hG',hF',hB'⟩⟩
 clear hbind hG' hF' hB' hS hSa
 (try go_wp2_with fail)
 refine hK.out _ _ ?_ ?_
 ·(try dsimp only);exact hS2.out
 clear hK;intro hHeld
 (try simp only[pz])
 refine tkz 7 34 ?_
 (try simp only[pz])
 refine tkz 8 35 ?_
 (try simp only[pz])
 refine tkz 9 7 ?_
 (try simp only[pz])
 refine tkz 10 8 ?_
 (try simp only[pz])
 clear hHeld hS2
 refine wpAnyH_done k_f ?_ _
 go_wp2_with fail
 refine bodyPost_ret (results_tmp2 rfl _ _ _) rfl ?_
 exact hfin.out
theorem negate8 {w0 w:World}{pa pm bn:Nat}{nn kk:Int}{s:St}{F:Nat→Prop}{i:Int}{x:NR}{ks:List Int}{ka:Option Addr}{kc:Nat}(hE:EA w0 w pa pm nn kk s F)(hn:w.heap[bn]? =some (.cells #[.pointer (some ⟨pa,0,none⟩)] 26 (0,0)))(hnF: ¬F bn∧bn≠pm)(hi:okI s.L i)(hk:(ndI s.L i).kind=8)(hN:NC (fun _=>True) w x (ndI s.L i) 1048576)(hI:IL w ka ks.length ks)(hok: ∀k∈ks,okI s.L k)(hkl:ks.length=(ndI s.L i).kids.length)(hkF:InF (fun b=> ¬F b∧b≠pm) ka ks.length):
  Calls Tryz.prog 46 #[.int .i64 i,.agg (nE x),.slice ka ks.length kc,.pointer (some ⟨bn,0,none⟩)] w fun e w'=> ∃r,NegR nn kk s i ks r∧AO2 w w' e pa pm nn kk F r:=by
 obtain⟨kd,sd,ad,ld,cd,ap,np,cp,sk,ak,lk,ck,vr,kka,kkn,kkc⟩:=x
 have hke:kd=(ndI s.L i).kind:=hN.kd
 have hve:vr=(ndI s.L i).var:=hN.vr
 obtain rfl:kd=8:=hke.trans hk
 have b1:=below_alloc w (.cells #[.int .i64 8,.bool sd,.slice ad ld cd,.slice ap np cp,.bool sk,.slice ak lk ck,.int .i64 vr,.slice kka kkn kkc] 77)
 have y1:NB (w.alloc (.cells #[.int .i64 8,.bool sd,.slice ad ld cd,.slice ap np cp,.bool sk,.slice ak lk ck,.int .i64 vr,.slice kka kkn kkc] 77)) w.heap.size 8 sd ad ld cd ap np cp sk ak lk ck vr kka kkn kkc:=NB.new w _ _ _ _ _ _ _ _ _ _ _ _ _ _ _ _
 have hE1:=hE.below b1
 have hI1:=hI.below b1
 have hn1:(w.alloc (.cells #[.int .i64 8,.bool sd,.slice ad ld cd,.slice ap np cp,.bool sk,.slice ak lk ck,.int .i64 vr,.slice kka kkn kkc] 77)).heap[bn]? =some (.cells #[.pointer (some ⟨pa,0,none⟩)] 26 (0,0)):=(b1.block bn (lt_of_block hn)).trans hn
 have un:=cell_of_row _ bn 0 _ _ (0,0) hn1
 have hfl:=hE.g.fl
 have hpl:=hE.g.mb.lt
 have hbF: ¬F w.heap.size∧w.heap.size≠pm:=⟨fun h=>by have:=hfl _ h;omega,by omega⟩
 have hkd:=hE.v.kinds hi
 have hvI:I64 vr:=hve▸hE.v.var hi
 have hksl:ks.length≤2002:=by
  have h1:=(hE.v.kids hi).1
  have h2:=hi.2
  have h3:=hE.g.ln
  have h4:=hE.g.cn
  have h5:=hE.g.n2
  omega
 have hbnl:=lt_of_block hn
 replace b1:=hide b1
 simp only[nE]
 obtain⟨x0,hx0,_⟩:=hE.v.quant hi o_m
 rw[hx0]at hkl
 obtain⟨y,rfl⟩: ∃y,ks= [y]:=by
  rcases ks with _|⟨y,_|⟨z,t⟩⟩
  ·simp at hkl
  ·exact⟨y,rfl⟩
  simp at hkl
 have hyk:=hok y (by simp)
 have hyI:I64 y:=by
  have h1:=hyk.1
  have h2:=hyk.2
  have h3:=hE.g.ln
  have h4:=hE.g.cn
  have h5:=hE.g.n2
  unfold I64
  omega
 obtain⟨kb,ko,rfl,hkb,hkc⟩: ∃kb ko,ka=some ⟨kb,ko,none⟩∧kb<w.heap.size∧w.cell? ⟨kb,ko,none⟩=some (.int .i64 y):=by
  rcases hI.2 with h0|⟨kb,ko,e,h1,h2⟩
  ·simp at h0
  exact⟨kb,ko,e,h1,by simpa using (h2 0 (by simp)).1⟩
 have hkF2:=hkF kb ko rfl (by simp)
 have hS:Hid (∀w',Below (w.alloc (.cells #[.int .i64 8,.bool sd,.slice ad ld cd,.slice ap np cp,.bool sk,.slice ak lk ck,.int .i64 vr,.slice kka kkn kkc] 77)).heap.size (w.alloc (.cells #[.int .i64 8,.bool sd,.slice ad ld cd,.slice ap np cp,.bool sk,.slice ak lk ck,.int .i64 vr,.slice kka kkn kkc] 77)) w'→w'.cell? ⟨bn,0,none⟩=some (.pointer (some ⟨pa,0,none⟩))∧w'.cell? ⟨w.heap.size,0,none⟩=some (.int .i64 8)∧w'.cell? ⟨w.heap.size,6,none⟩=some (.int .i64 vr)∧w'.cell? ⟨kb,ko,none⟩=some (.int .i64 y)):=hide fun w' k=>by
  have y2:=y1.below k
  exact⟨cell_of_row _ bn 0 _ _ (0,0) ((k.block bn (lt_of_block hn1)).trans hn1),y2.c0,y2.c6,((grow_step k b1.out).cell (p:=⟨kb,ko,none⟩) hkb).trans hkc⟩
 have hSa:Hid (∀w',ButF (fun b=>b=pm∨F b) (w.alloc (.cells #[.int .i64 8,.bool sd,.slice ad ld cd,.slice ap np cp,.bool sk,.slice ak lk ck,.int .i64 vr,.slice kka kkn kkc] 77)).drew w'→w'.cell? ⟨bn,0,none⟩=some (.pointer (some ⟨pa,0,none⟩))∧w'.cell? ⟨w.heap.size,0,none⟩=some (.int .i64 8)∧w'.cell? ⟨w.heap.size,6,none⟩=some (.int .i64 vr)∧w'.cell? ⟨kb,ko,none⟩=some (.int .i64 y)):=hide fun w' k=>by
  have hsz:=b1.out.size
  have y2:NB w' w.heap.size 8 sd ad ld cd ap np cp sk ak lk ck vr kka kkn kkc:=(keepF k (lt_of_block y1) hbF).trans y1
  exact⟨cell_of_row _ bn 0 _ _ (0,0) ((keepF k (lt_of_block hn1) hnF).trans hn1),y2.c0,y2.c6,(World.cell?_of_block (a:=⟨kb,ko,none⟩) (keepF k (Nat.lt_of_lt_of_le hkb hsz) hkF2)).trans ((b1.out.cell (p:=⟨kb,ko,none⟩) hkb).trans hkc)⟩
 have hbind:Hid (∀w',Below (w.alloc (.cells #[.int .i64 8,.bool sd,.slice ad ld cd,.slice ap np cp,.bool sk,.slice ak lk ck,.int .i64 vr,.slice kka kkn kkc] 77)).heap.size (w.alloc (.cells #[.int .i64 8,.bool sd,.slice ad ld cd,.slice ap np cp,.bool sk,.slice ak lk ck,.int .i64 vr,.slice kka kkn kkc] 77)) w'→Calls Tryz.prog 41 #[.pointer (some ⟨pa,0,none⟩),.int .i64 7,.int .i64 vr,.int .i64 y] w' fun e w''=>AO2 w' w'' e pa pm nn kk F (actB nn kk s 7 vr y)):=hide fun w' k=>bind_ao2 (hE1.below k).g hvI hyI (hE1.below k).tab
 have hrel:Hid (NegR nn kk s i [y] (actB nn kk s 7 vr y)):=hide (by rw[hve];exact .inr (.inr (.inr (.inl ⟨hk,rfl⟩))))
 clear hE hE1 hN hI hI1 hn hn1 hkF hkc hkd hk hke hve hkl
 go_enter Tryz.func46,Tryz.ntmps46
 go_wp2_with fail
 refine wp_region_held_drew (S:=fun w'=>w'.cell? ⟨bn,0,none⟩=some (.pointer (some ⟨pa,0,none⟩))∧w'.cell? ⟨w.heap.size,0,none⟩=some (.int .i64 8)∧w'.cell? ⟨w.heap.size,6,none⟩=some (.int .i64 vr)∧w'.cell? ⟨kb,ko,none⟩=some (.int .i64 y)) k_f (hS.out _ (below_drew2 (Below.refl _ _))) (fun hHeld=> ?_)
 show wpAnyH _ _ _ _ _ 11 _ _ _
 refine tkz 0 38 ?_
 (try simp only[pz])
 refine tkz 1 39 ?_
 (try simp only[pz])
 refine tkz 2 40 ?_
 (try simp only[pz])
 refine tkz 3 41 ?_
 (try simp only[pz])
 refine tkz 4 42 ?_
 (try simp only[pz])
 refine tkz 5 43 ?_
 (try simp only[pz])
 refine ryz 6 (some 44) (fun K' hK=> ?_) AllReadyH.nil
 clear hHeld
 rw[if_pos k_f]
 go_simp
 refine Calls.mono (hbind.out _ (below_drew2 (Below.refl _ _))) ?_
 rintro e w2 ⟨rfl,F',hG',hF',hB'⟩
 have hS2:=hide (hSa.out w2 hB')
 have hfin:Hid (∃r,NegR nn kk s i [y] r∧AO2 w w2 (.returned (.tuple #[.int .i64 (actB nn kk s 7 vr y).2.1,.int .i64 (actB nn kk s 7 vr y).2.2])) pa pm nn kk F r):=hide ⟨actB nn kk s 7 vr y,hrel.out,ao2_back (below_drew2 b1.out) ⟨rfl,F',hG',hF',hB'⟩⟩
 clear hbind hG' hF' hB' hS hSa
 (try go_wp2_with fail)
 refine hK.out _ _ ?_ ?_
 ·(try dsimp only);exact hS2.out
 clear hK;intro hHeld
 (try simp only[pz])
 refine tkz 7 45 ?_
 (try simp only[pz])
 refine tkz 8 46 ?_
 (try simp only[pz])
 refine tkz 9 7 ?_
 (try simp only[pz])
 refine tkz 10 8 ?_
 (try simp only[pz])
 clear hHeld hS2
 refine wpAnyH_done k_f ?_ _
 go_wp2_with fail
 refine bodyPost_ret (results_tmp2 rfl _ _ _) rfl ?_
 exact hfin.out
end Nt
namespace Nt
theorem negate0 {w0 w:World}{pa pm bn:Nat}{nn kk:Int}{s:St}{F:Nat→Prop}{i:Int}{x:NR}{ks:List Int}{ka:Option Addr}{kc:Nat}(hE:EA w0 w pa pm nn kk s F)(hn:w.heap[bn]? =some (.cells #[.pointer (some ⟨pa,0,none⟩)] 26 (0,0)))(hnF: ¬F bn∧bn≠pm)(hi:okI s.L i)(hk:(ndI s.L i).kind<5)(hN:NC (fun _=>True) w x (ndI s.L i) 1048576)(hI:IL w ka ks.length ks)(_hok: ∀k∈ks,okI s.L k)(hkl:ks.length=(ndI s.L i).kids.length)(_hkF:InF (fun b=> ¬F b∧b≠pm) ka ks.length):
  Calls Tryz.prog 46 #[.int .i64 i,.agg (nE x),.slice ka ks.length kc,.pointer (some ⟨bn,0,none⟩)] w fun e w'=> ∃r,NegR nn kk s i ks r∧AO2 w w' e pa pm nn kk F r:=by
 obtain⟨kd,sd,ad,ld,cd,ap,np,cp,sk,ak,lk,ck,vr,kka,kkn,kkc⟩:=x
 have hke:kd=(ndI s.L i).kind:=hN.kd
 have hve:vr=(ndI s.L i).var:=hN.vr
 have b1:=below_alloc w (.cells #[.int .i64 kd,.bool sd,.slice ad ld cd,.slice ap np cp,.bool sk,.slice ak lk ck,.int .i64 vr,.slice kka kkn kkc] 77)
 have y1:NB (w.alloc (.cells #[.int .i64 kd,.bool sd,.slice ad ld cd,.slice ap np cp,.bool sk,.slice ak lk ck,.int .i64 vr,.slice kka kkn kkc] 77)) w.heap.size kd sd ad ld cd ap np cp sk ak lk ck vr kka kkn kkc:=NB.new w _ _ _ _ _ _ _ _ _ _ _ _ _ _ _ _
 have hE1:=hE.below b1
 have hI1:=hI.below b1
 have hn1:(w.alloc (.cells #[.int .i64 kd,.bool sd,.slice ad ld cd,.slice ap np cp,.bool sk,.slice ak lk ck,.int .i64 vr,.slice kka kkn kkc] 77)).heap[bn]? =some (.cells #[.pointer (some ⟨pa,0,none⟩)] 26 (0,0)):=(b1.block bn (lt_of_block hn)).trans hn
 have un:=cell_of_row _ bn 0 _ _ (0,0) hn1
 have hfl:=hE.g.fl
 have hpl:=hE.g.mb.lt
 have hbF: ¬F w.heap.size∧w.heap.size≠pm:=⟨fun h=>by have:=hfl _ h;omega,by omega⟩
 have hkd:=hE.v.kinds hi
 have hvI:I64 vr:=hve▸hE.v.var hi
 have hksl:ks.length≤2002:=by
  have h1:=(hE.v.kids hi).1
  have h2:=hi.2
  have h3:=hE.g.ln
  have h4:=hE.g.cn
  have h5:=hE.g.n2
  omega
 have hbnl:=lt_of_block hn
 replace b1:=hide b1
 simp only[nE]
 obtain⟨hfit,hpl2,_,_⟩:=hE.v.atm hi hk
 have hnum:=hE.v.numb hE.k0 hi
 have hst:=hfit.std
 have hS:Hid (∀w',Below (w.alloc (.cells #[.int .i64 kd,.bool sd,.slice ad ld cd,.slice ap np cp,.bool sk,.slice ak lk ck,.int .i64 vr,.slice kka kkn kkc] 77)).heap.size (w.alloc (.cells #[.int .i64 kd,.bool sd,.slice ad ld cd,.slice ap np cp,.bool sk,.slice ak lk ck,.int .i64 vr,.slice kka kkn kkc] 77)) w'→w'.cell? ⟨bn,0,none⟩=some (.pointer (some ⟨pa,0,none⟩))∧w'.cell? ⟨w.heap.size,0,none⟩=some (.int .i64 kd)∧w'.cell? ⟨w.heap.size,1,none⟩=some (.bool sd)∧w'.cell? ⟨w.heap.size,2,none⟩=some (.slice ad ld cd)∧w'.cell? ⟨w.heap.size,3,none⟩=some (.slice ap np cp)∧w'.cell? ⟨w.heap.size,4,none⟩=some (.bool sk)∧w'.cell? ⟨w.heap.size,5,none⟩=some (.slice ak lk ck)∧w'.cell? ⟨w.heap.size,6,none⟩=some (.int .i64 vr)):=hide fun w' k=>by
  have y2:=y1.below k
  exact⟨cell_of_row _ bn 0 _ _ (0,0) ((k.block bn (lt_of_block hn1)).trans hn1),y2.c0,y2.c1,y2.c2,y2.c3,y2.c4,y2.c5,y2.c6⟩
 have hSa:Hid (∀w2 w',Below (w.alloc (.cells #[.int .i64 kd,.bool sd,.slice ad ld cd,.slice ap np cp,.bool sk,.slice ak lk ck,.int .i64 vr,.slice kka kkn kkc] 77)).heap.size (w.alloc (.cells #[.int .i64 kd,.bool sd,.slice ad ld cd,.slice ap np cp,.bool sk,.slice ak lk ck,.int .i64 vr,.slice kka kkn kkc] 77)) w2→ButF (fun b=>b=pm∨F b) w2 w'→w'.cell? ⟨bn,0,none⟩=some (.pointer (some ⟨pa,0,none⟩))∧w'.cell? ⟨w.heap.size,0,none⟩=some (.int .i64 kd)∧w'.cell? ⟨w.heap.size,1,none⟩=some (.bool sd)∧w'.cell? ⟨w.heap.size,2,none⟩=some (.slice ad ld cd)∧w'.cell? ⟨w.heap.size,3,none⟩=some (.slice ap np cp)∧w'.cell? ⟨w.heap.size,4,none⟩=some (.bool sk)∧w'.cell? ⟨w.heap.size,5,none⟩=some (.slice ak lk ck)∧w'.cell? ⟨w.heap.size,6,none⟩=some (.int .i64 vr)):=hide fun w2 w' k2 k=>by
  have y2:NB w2 w.heap.size kd sd ad ld cd ap np cp sk ak lk ck vr kka kkn kkc:=y1.below k2
  have y3:NB w' w.heap.size kd sd ad ld cd ap np cp sk ak lk ck vr kka kkn kkc:=(keepF k (lt_of_block y2) hbF).trans y2
  have hn2:=(k2.block bn (lt_of_block hn1)).trans hn1
  exact⟨cell_of_row _ bn 0 _ _ (0,0) ((keepF k (lt_of_block hn2) hnF).trans hn2),y3.c0,y3.c1,y3.c2,y3.c3,y3.c4,y3.c5,y3.c6⟩
 obtain⟨R,hR⟩: ∃R,R=(putE nn kk s (ndA (negA (atmN (ndI s.L i))))):=⟨_,rfl⟩
 have hneg:Hid (∀w',Below (w.alloc (.cells #[.int .i64 kd,.bool sd,.slice ad ld cd,.slice ap np cp,.bool sk,.slice ak lk ck,.int .i64 vr,.slice kka kkn kkc] 77)).heap.size (w.alloc (.cells #[.int .i64 kd,.bool sd,.slice ad ld cd,.slice ap np cp,.bool sk,.slice ak lk ck,.int .i64 vr,.slice kka kkn kkc] 77)) w'→Calls Tryz.prog 47 #[.agg #[.int .i64 kd,.bool sd,.slice ad ld cd,.slice ap np cp,.bool sk,.slice ak lk ck]] w' fun e w2=> ∃kd2 sd2 ad2 ld2 cd2 ap2 np2 cp2 sk2 ak2 lk2 ck2,e= .returned (.agg #[.int .i64 kd2,.bool sd2,.slice ad2 ld2 cd2,.slice ap2 np2 cp2,.bool sk2,.slice ak2 lk2 ck2])∧Calls Tryz.prog 33 #[.pointer (some ⟨pa,0,none⟩),.agg #[.int .i64 kd2,.bool sd2,.slice ad2 ld2 cd2,.slice ap2 np2 cp2,.bool sk2,.slice ak2 lk2 ck2]] w2 (fun e w''=>AO2 w2 w'' e pa pm nn kk F R)∧Below (w.alloc (.cells #[.int .i64 kd,.bool sd,.slice ad ld cd,.slice ap np cp,.bool sk,.slice ak lk ck,.int .i64 vr,.slice kka kkn kkc] 77)).heap.size (w.alloc (.cells #[.int .i64 kd,.bool sd,.slice ad ld cd,.slice ap np cp,.bool sk,.slice ak lk ck,.int .i64 vr,.slice kka kkn kkc] 77)) w2):=hide fun w' k=>by
  have hN1:=NC.below hN (grow_step k b1.out)
  have hnp:np=(ndI s.L i).ps.length:=hN1.pn.1.symm
  have hk8:=hE1.k8
  refine Calls.mono (anegate_n (B:=1048576) hN1.zd.zm hN1.hld hN1.pn.pn.pr hN1.zk.zm hN1.hlk o_m o_m) ?_
  rintro e w2 ⟨qs,hq1,hq2,hq3,k2⟩
  have hqe:qs=(ndI s.L i).ps:=std_unique hq1 hst hq2
  have hform:formA kd (ndI s.L i).d qs (ndI s.L i).k= .inl (atmN (ndI s.L i)):=by rw[hqe,hke];exact hfit.again
  rw[hform]at hq3
  obtain⟨sd2,ad2,ld2,cd2,ap2,np2,cp2,sk2,ak2,lk2,ck2,rfl,z1,-,z2,-,z3,-,-⟩:=hq3
  have hnn: ∀z∈nums (ndA (negA (atmN (ndI s.L i)))),lim z≤kk.toNat+1:=negA_nums fun z hz=>by
   have h1:=hnum z hz
   omega
  refine⟨(negA (atmN (ndI s.L i))).kind,sd2,ad2,ld2,cd2,ap2,np2,cp2,sk2,ak2,lk2,ck2,rfl,?_,grow_step k2 k⟩
  have hnp2:np2≤209716:=by
   have e1:(negA (atmN (ndI s.L i))).ps.length=np2:=z2.1
   rw[←e1]
   exact Nt.negA_len (a:=atmN (ndI s.L i)) hpl2
  have h1:=atom_ao2 (B:=kk.toNat+1) (kd:=(negA (atmN (ndI s.L i))).kind) (cp:=cp2) ((hE1.below (grow_step k2 k)).g) z1.zm (by rw[zn_limb z1];exact hnn _ (by simp[nums,ndA])) (pn_limb z2 fun p hp=>hnn _ (by unfold nums ndA;exact List.mem_cons_of_mem _ (List.mem_cons_of_mem _ (List.mem_map_of_mem hp)))).pr z3.zm (by rw[zn_limb z3];exact hnn _ (by simp[nums,ndA])) hnp2 o_m ((hE1.below (grow_step k2 k)).tab)
  rw[actA_neg hfit,←hR]at h1
  exact h1
 have hrel:Hid (NegR nn kk s i ks R):=hide (.inr (.inr (.inr (.inr ⟨hk,hR⟩))))
 have h5: ¬kd=5:=by omega
 have h6: ¬kd=6:=by omega
 have h7: ¬kd=7:=by omega
 have h8: ¬kd=8:=by omega
 clear hfit hpl2 hnum hst _hok hvI hR
 clear hE hE1 hN hI hI1 hn hn1 _hkF hkd hk hke hve hkl
 go_enter Tryz.func46,Tryz.ntmps46
 go_wp2_with fail
 refine wp_region_held_drew (S:=fun w'=>w'.cell? ⟨bn,0,none⟩=some (.pointer (some ⟨pa,0,none⟩))∧w'.cell? ⟨w.heap.size,0,none⟩=some (.int .i64 kd)∧w'.cell? ⟨w.heap.size,1,none⟩=some (.bool sd)∧w'.cell? ⟨w.heap.size,2,none⟩=some (.slice ad ld cd)∧w'.cell? ⟨w.heap.size,3,none⟩=some (.slice ap np cp)∧w'.cell? ⟨w.heap.size,4,none⟩=some (.bool sk)∧w'.cell? ⟨w.heap.size,5,none⟩=some (.slice ak lk ck)∧w'.cell? ⟨w.heap.size,6,none⟩=some (.int .i64 vr)) k_f (hS.out _ (below_drew2 (Below.refl _ _))) (fun hHeld=> ?_)
 show wpAnyH _ _ _ _ _ 14 _ _ _
 refine tkz 0 47 ?_
 (try simp only[pz])
 refine tkz 1 48 ?_
 (try simp only[pz])
 refine tkz 2 49 ?_
 (try simp only[pz])
 refine tkz 3 50 ?_
 (try simp only[pz])
 refine tkz 4 51 ?_
 (try simp only[pz])
 refine tkz 5 52 ?_
 (try simp only[pz])
 refine tkz 6 53 ?_
 (try simp only[pz])
 refine tkz 7 54 ?_
 (try simp only[pz])
 refine ryz 8 (some 55) (fun K' hK=> ?_) AllReadyH.nil
 clear hHeld
 rw[if_pos k_f]
 go_simp
 refine Calls.mono (hneg.out _ (below_drew2 (Below.refl _ _))) ?_
 rintro e w2 ⟨kd2,sd2,ad2,ld2,cd2,ap2,np2,cp2,sk2,ak2,lk2,ck2,rfl,hcall,k2⟩
 replace hcall:=hide hcall
 replace k2:=hide k2
 clear hneg
 (try go_wp2_with fail)
 refine hK.out _ _ ?_ ?_
 ·(try dsimp only);exact hS.out _ k2.out
 clear hK;intro hHeld
 (try simp only[pz])
 refine ryz 9 (some 56) (fun K' hK=> ?_) AllReadyH.nil
 clear hHeld
 rw[if_pos k_f]
 go_simp
 refine Calls.mono hcall.out ?_
 rintro e w3 ⟨rfl,F',hG',hF',hB'⟩
 have hS2:=hide (hSa.out w2 w3 k2.out hB')
 have hfin:Hid (∃r,NegR nn kk s i ks r∧AO2 w w3 (.returned (.tuple #[.int .i64 R.2.1,.int .i64 R.2.2])) pa pm nn kk F r):=hide ⟨_,hrel.out,ao2_back (grow_step k2.out b1.out) ⟨rfl,F',hG',hF',hB'⟩⟩
 clear hcall hG' hF' hB' hS hSa k2
 (try go_wp2_with fail)
 refine hK.out _ _ ?_ ?_
 ·(try dsimp only);exact hS2.out
 clear hK;intro hHeld
 (try simp only[pz])
 refine tkz 10 57 ?_
 (try simp only[pz])
 refine tkz 11 58 ?_
 (try simp only[pz])
 refine tkz 12 7 ?_
 (try simp only[pz])
 refine tkz 13 8 ?_
 (try simp only[pz])
 clear hHeld hS2
 refine wpAnyH_done k_f ?_ _
 go_wp2_with fail
 refine bodyPost_ret (results_tmp2 rfl _ _ _) rfl ?_
 exact hfin.out
end Nt
namespace Nt
theorem again7 {w0 w:World}{pa pm bn:Nat}{nn kk:Int}{s:St}{F:Nat→Prop}{i:Int}{x:NR}{ks:List Int}{ka:Option Addr}{kc:Nat}(hE:EA w0 w pa pm nn kk s F)(hn:w.heap[bn]? =some (.cells #[.pointer (some ⟨pa,0,none⟩)] 26 (0,0)))(hnF: ¬F bn∧bn≠pm)(hi:okI s.L i)(hk:(ndI s.L i).kind=7)(hN:NC (fun _=>True) w x (ndI s.L i) 1048576)(hI:IL w ka ks.length ks)(hok: ∀k∈ks,okI s.L k)(hkl:ks.length=(ndI s.L i).kids.length)(hkF:InF (fun b=> ¬F b∧b≠pm) ka ks.length):
  Calls Tryz.prog 48 #[.int .i64 i,.agg (nE x),.slice ka ks.length kc,.pointer (some ⟨bn,0,none⟩)] w fun e w'=> ∃r,AgR nn kk s i ks r∧AO2 w w' e pa pm nn kk F r:=by
 obtain⟨kd,sd,ad,ld,cd,ap,np,cp,sk,ak,lk,ck,vr,kka,kkn,kkc⟩:=x
 have hke:kd=(ndI s.L i).kind:=hN.kd
 have hve:vr=(ndI s.L i).var:=hN.vr
 obtain rfl:kd=7:=hke.trans hk
 have b1:=below_alloc w (.cells #[.int .i64 7,.bool sd,.slice ad ld cd,.slice ap np cp,.bool sk,.slice ak lk ck,.int .i64 vr,.slice kka kkn kkc] 77)
 have y1:NB (w.alloc (.cells #[.int .i64 7,.bool sd,.slice ad ld cd,.slice ap np cp,.bool sk,.slice ak lk ck,.int .i64 vr,.slice kka kkn kkc] 77)) w.heap.size 7 sd ad ld cd ap np cp sk ak lk ck vr kka kkn kkc:=NB.new w _ _ _ _ _ _ _ _ _ _ _ _ _ _ _ _
 have hE1:=hE.below b1
 have hI1:=hI.below b1
 have hn1:(w.alloc (.cells #[.int .i64 7,.bool sd,.slice ad ld cd,.slice ap np cp,.bool sk,.slice ak lk ck,.int .i64 vr,.slice kka kkn kkc] 77)).heap[bn]? =some (.cells #[.pointer (some ⟨pa,0,none⟩)] 26 (0,0)):=(b1.block bn (lt_of_block hn)).trans hn
 have un:=cell_of_row _ bn 0 _ _ (0,0) hn1
 have hfl:=hE.g.fl
 have hpl:=hE.g.mb.lt
 have hbF: ¬F w.heap.size∧w.heap.size≠pm:=⟨fun h=>by have:=hfl _ h;omega,by omega⟩
 have hkd:=hE.v.kinds hi
 have hvI:I64 vr:=hve▸hE.v.var hi
 have hksl:ks.length≤2002:=by
  have h1:=(hE.v.kids hi).1
  have h2:=hi.2
  have h3:=hE.g.ln
  have h4:=hE.g.cn
  have h5:=hE.g.n2
  omega
 have hbnl:=lt_of_block hn
 replace b1:=hide b1
 simp only[nE]
 obtain⟨x0,hx0,_⟩:=hE.v.quant hi o_m
 rw[hx0]at hkl
 obtain⟨y,rfl⟩: ∃y,ks= [y]:=by
  rcases ks with _|⟨y,_|⟨z,t⟩⟩
  ·simp at hkl
  ·exact⟨y,rfl⟩
  simp at hkl
 have hyk:=hok y (by simp)
 have hyI:I64 y:=by
  have h1:=hyk.1
  have h2:=hyk.2
  have h3:=hE.g.ln
  have h4:=hE.g.cn
  have h5:=hE.g.n2
  unfold I64
  omega
 obtain⟨kb,ko,rfl,hkb,hkc⟩: ∃kb ko,ka=some ⟨kb,ko,none⟩∧kb<w.heap.size∧w.cell? ⟨kb,ko,none⟩=some (.int .i64 y):=by
  rcases hI.2 with h0|⟨kb,ko,e,h1,h2⟩
  ·simp at h0
  exact⟨kb,ko,e,h1,by simpa using (h2 0 (by simp)).1⟩
 have hkF2:=hkF kb ko rfl (by simp)
 have hS:Hid (∀w',Below (w.alloc (.cells #[.int .i64 7,.bool sd,.slice ad ld cd,.slice ap np cp,.bool sk,.slice ak lk ck,.int .i64 vr,.slice kka kkn kkc] 77)).heap.size (w.alloc (.cells #[.int .i64 7,.bool sd,.slice ad ld cd,.slice ap np cp,.bool sk,.slice ak lk ck,.int .i64 vr,.slice kka kkn kkc] 77)) w'→w'.cell? ⟨bn,0,none⟩=some (.pointer (some ⟨pa,0,none⟩))∧w'.cell? ⟨w.heap.size,0,none⟩=some (.int .i64 7)∧w'.cell? ⟨w.heap.size,6,none⟩=some (.int .i64 vr)∧w'.cell? ⟨kb,ko,none⟩=some (.int .i64 y)):=hide fun w' k=>by
  have y2:=y1.below k
  exact⟨cell_of_row _ bn 0 _ _ (0,0) ((k.block bn (lt_of_block hn1)).trans hn1),y2.c0,y2.c6,((grow_step k b1.out).cell (p:=⟨kb,ko,none⟩) hkb).trans hkc⟩
 have hSa:Hid (∀w',ButF (fun b=>b=pm∨F b) (w.alloc (.cells #[.int .i64 7,.bool sd,.slice ad ld cd,.slice ap np cp,.bool sk,.slice ak lk ck,.int .i64 vr,.slice kka kkn kkc] 77)).drew w'→w'.cell? ⟨bn,0,none⟩=some (.pointer (some ⟨pa,0,none⟩))∧w'.cell? ⟨w.heap.size,0,none⟩=some (.int .i64 7)∧w'.cell? ⟨w.heap.size,6,none⟩=some (.int .i64 vr)∧w'.cell? ⟨kb,ko,none⟩=some (.int .i64 y)):=hide fun w' k=>by
  have hsz:=b1.out.size
  have y2:NB w' w.heap.size 7 sd ad ld cd ap np cp sk ak lk ck vr kka kkn kkc:=(keepF k (lt_of_block y1) hbF).trans y1
  exact⟨cell_of_row _ bn 0 _ _ (0,0) ((keepF k (lt_of_block hn1) hnF).trans hn1),y2.c0,y2.c6,(World.cell?_of_block (a:=⟨kb,ko,none⟩) (keepF k (Nat.lt_of_lt_of_le hkb hsz) hkF2)).trans ((b1.out.cell (p:=⟨kb,ko,none⟩) hkb).trans hkc)⟩
 have hbind:Hid (∀w',Below (w.alloc (.cells #[.int .i64 7,.bool sd,.slice ad ld cd,.slice ap np cp,.bool sk,.slice ak lk ck,.int .i64 vr,.slice kka kkn kkc] 77)).heap.size (w.alloc (.cells #[.int .i64 7,.bool sd,.slice ad ld cd,.slice ap np cp,.bool sk,.slice ak lk ck,.int .i64 vr,.slice kka kkn kkc] 77)) w'→Calls Tryz.prog 41 #[.pointer (some ⟨pa,0,none⟩),.int .i64 7,.int .i64 vr,.int .i64 y] w' fun e w''=>AO2 w' w'' e pa pm nn kk F (actB nn kk s 7 vr y)):=hide fun w' k=>bind_ao2 (hE1.below k).g hvI hyI (hE1.below k).tab
 have hrel:Hid (AgR nn kk s i [y] (actB nn kk s 7 vr y)):=hide (by rw[hve,←hk];exact .inr (.inr (.inl ⟨.inl hk,rfl⟩)))
 clear hE hE1 hN hI hI1 hn hn1 hkF hkc hkd hk hke hve hkl
 go_enter Tryz.func48,Tryz.ntmps48
 go_wp2_with fail
 refine wp_region_held_drew (S:=fun w'=>w'.cell? ⟨bn,0,none⟩=some (.pointer (some ⟨pa,0,none⟩))∧w'.cell? ⟨w.heap.size,0,none⟩=some (.int .i64 7)∧w'.cell? ⟨w.heap.size,6,none⟩=some (.int .i64 vr)∧w'.cell? ⟨kb,ko,none⟩=some (.int .i64 y)) k_f (hS.out _ (below_drew2 (Below.refl _ _))) (fun hHeld=> ?_)
 show wpAnyH _ _ _ _ _ 13 _ _ _
 refine tkz 0 28 ?_
 (try simp only[pz])
 refine tkz 1 29 ?_
 (try simp only[pz])
 refine tkz 2 30 ?_
 (try simp only[pz])
 refine tkz 3 31 ?_
 (try simp only[pz])
 refine tkz 4 32 ?_
 (try simp only[pz])
 refine tkz 5 33 ?_
 (try simp only[pz])
 refine tkz 6 34 ?_
 (try simp only[pz])
 refine tkz 7 35 ?_
 (try simp only[pz])
 refine ryz 8 (some 36) (fun K' hK=> ?_) AllReadyH.nil
 clear hHeld
 rw[if_pos k_f]
 go_simp
 refine Calls.mono (hbind.out _ (below_drew2 (Below.refl _ _))) ?_
 rintro e w2 ⟨rfl,F',hG',hF',hB'⟩
 have hS2:=hide (hSa.out w2 hB')
 have hfin:Hid (∃r,AgR nn kk s i [y] r∧AO2 w w2 (.returned (.tuple #[.int .i64 (actB nn kk s 7 vr y).2.1,.int .i64 (actB nn kk s 7 vr y).2.2])) pa pm nn kk F r):=hide ⟨actB nn kk s 7 vr y,hrel.out,ao2_back (below_drew2 b1.out) ⟨rfl,F',hG',hF',hB'⟩⟩
 clear hbind hG' hF' hB' hS hSa
 (try go_wp2_with fail)
 refine hK.out _ _ ?_ ?_
 ·(try dsimp only);exact hS2.out
 clear hK;intro hHeld
 (try simp only[pz])
 refine tkz 9 37 ?_
 (try simp only[pz])
 refine tkz 10 38 ?_
 (try simp only[pz])
 refine tkz 11 7 ?_
 (try simp only[pz])
 refine tkz 12 8 ?_
 (try simp only[pz])
 clear hHeld hS2
 refine wpAnyH_done k_f ?_ _
 go_wp2_with fail
 refine bodyPost_ret (results_tmp2 rfl _ _ _) rfl ?_
 exact hfin.out
theorem again8 {w0 w:World}{pa pm bn:Nat}{nn kk:Int}{s:St}{F:Nat→Prop}{i:Int}{x:NR}{ks:List Int}{ka:Option Addr}{kc:Nat}(hE:EA w0 w pa pm nn kk s F)(hn:w.heap[bn]? =some (.cells #[.pointer (some ⟨pa,0,none⟩)] 26 (0,0)))(hnF: ¬F bn∧bn≠pm)(hi:okI s.L i)(hk:(ndI s.L i).kind=8)(hN:NC (fun _=>True) w x (ndI s.L i) 1048576)(hI:IL w ka ks.length ks)(hok: ∀k∈ks,okI s.L k)(hkl:ks.length=(ndI s.L i).kids.length)(hkF:InF (fun b=> ¬F b∧b≠pm) ka ks.length):
  Calls Tryz.prog 48 #[.int .i64 i,.agg (nE x),.slice ka ks.length kc,.pointer (some ⟨bn,0,none⟩)] w fun e w'=> ∃r,AgR nn kk s i ks r∧AO2 w w' e pa pm nn kk F r:=by
 obtain⟨kd,sd,ad,ld,cd,ap,np,cp,sk,ak,lk,ck,vr,kka,kkn,kkc⟩:=x
 have hke:kd=(ndI s.L i).kind:=hN.kd
 have hve:vr=(ndI s.L i).var:=hN.vr
 obtain rfl:kd=8:=hke.trans hk
 have b1:=below_alloc w (.cells #[.int .i64 8,.bool sd,.slice ad ld cd,.slice ap np cp,.bool sk,.slice ak lk ck,.int .i64 vr,.slice kka kkn kkc] 77)
 have y1:NB (w.alloc (.cells #[.int .i64 8,.bool sd,.slice ad ld cd,.slice ap np cp,.bool sk,.slice ak lk ck,.int .i64 vr,.slice kka kkn kkc] 77)) w.heap.size 8 sd ad ld cd ap np cp sk ak lk ck vr kka kkn kkc:=NB.new w _ _ _ _ _ _ _ _ _ _ _ _ _ _ _ _
 have hE1:=hE.below b1
 have hI1:=hI.below b1
 have hn1:(w.alloc (.cells #[.int .i64 8,.bool sd,.slice ad ld cd,.slice ap np cp,.bool sk,.slice ak lk ck,.int .i64 vr,.slice kka kkn kkc] 77)).heap[bn]? =some (.cells #[.pointer (some ⟨pa,0,none⟩)] 26 (0,0)):=(b1.block bn (lt_of_block hn)).trans hn
 have un:=cell_of_row _ bn 0 _ _ (0,0) hn1
 have hfl:=hE.g.fl
 have hpl:=hE.g.mb.lt
 have hbF: ¬F w.heap.size∧w.heap.size≠pm:=⟨fun h=>by have:=hfl _ h;omega,by omega⟩
 have hkd:=hE.v.kinds hi
 have hvI:I64 vr:=hve▸hE.v.var hi
 have hksl:ks.length≤2002:=by
  have h1:=(hE.v.kids hi).1
  have h2:=hi.2
  have h3:=hE.g.ln
  have h4:=hE.g.cn
  have h5:=hE.g.n2
  omega
 have hbnl:=lt_of_block hn
 replace b1:=hide b1
 simp only[nE]
 obtain⟨x0,hx0,_⟩:=hE.v.quant hi o_m
 rw[hx0]at hkl
 obtain⟨y,rfl⟩: ∃y,ks= [y]:=by
  rcases ks with _|⟨y,_|⟨z,t⟩⟩
  ·simp at hkl
  ·exact⟨y,rfl⟩
  simp at hkl
 have hyk:=hok y (by simp)
 have hyI:I64 y:=by
  have h1:=hyk.1
  have h2:=hyk.2
  have h3:=hE.g.ln
  have h4:=hE.g.cn
  have h5:=hE.g.n2
  unfold I64
  omega
 obtain⟨kb,ko,rfl,hkb,hkc⟩: ∃kb ko,ka=some ⟨kb,ko,none⟩∧kb<w.heap.size∧w.cell? ⟨kb,ko,none⟩=some (.int .i64 y):=by
  rcases hI.2 with h0|⟨kb,ko,e,h1,h2⟩
  ·simp at h0
  exact⟨kb,ko,e,h1,by simpa using (h2 0 (by simp)).1⟩
 have hkF2:=hkF kb ko rfl (by simp)
 have hS:Hid (∀w',Below (w.alloc (.cells #[.int .i64 8,.bool sd,.slice ad ld cd,.slice ap np cp,.bool sk,.slice ak lk ck,.int .i64 vr,.slice kka kkn kkc] 77)).heap.size (w.alloc (.cells #[.int .i64 8,.bool sd,.slice ad ld cd,.slice ap np cp,.bool sk,.slice ak lk ck,.int .i64 vr,.slice kka kkn kkc] 77)) w'→w'.cell? ⟨bn,0,none⟩=some (.pointer (some ⟨pa,0,none⟩))∧w'.cell? ⟨w.heap.size,0,none⟩=some (.int .i64 8)∧w'.cell? ⟨w.heap.size,6,none⟩=some (.int .i64 vr)∧w'.cell? ⟨kb,ko,none⟩=some (.int .i64 y)):=hide fun w' k=>by
  have y2:=y1.below k
  exact⟨cell_of_row _ bn 0 _ _ (0,0) ((k.block bn (lt_of_block hn1)).trans hn1),y2.c0,y2.c6,((grow_step k b1.out).cell (p:=⟨kb,ko,none⟩) hkb).trans hkc⟩
 have hSa:Hid (∀w',ButF (fun b=>b=pm∨F b) (w.alloc (.cells #[.int .i64 8,.bool sd,.slice ad ld cd,.slice ap np cp,.bool sk,.slice ak lk ck,.int .i64 vr,.slice kka kkn kkc] 77)).drew w'→w'.cell? ⟨bn,0,none⟩=some (.pointer (some ⟨pa,0,none⟩))∧w'.cell? ⟨w.heap.size,0,none⟩=some (.int .i64 8)∧w'.cell? ⟨w.heap.size,6,none⟩=some (.int .i64 vr)∧w'.cell? ⟨kb,ko,none⟩=some (.int .i64 y)):=hide fun w' k=>by
  have hsz:=b1.out.size
  have y2:NB w' w.heap.size 8 sd ad ld cd ap np cp sk ak lk ck vr kka kkn kkc:=(keepF k (lt_of_block y1) hbF).trans y1
  exact⟨cell_of_row _ bn 0 _ _ (0,0) ((keepF k (lt_of_block hn1) hnF).trans hn1),y2.c0,y2.c6,(World.cell?_of_block (a:=⟨kb,ko,none⟩) (keepF k (Nat.lt_of_lt_of_le hkb hsz) hkF2)).trans ((b1.out.cell (p:=⟨kb,ko,none⟩) hkb).trans hkc)⟩
 have hbind:Hid (∀w',Below (w.alloc (.cells #[.int .i64 8,.bool sd,.slice ad ld cd,.slice ap np cp,.bool sk,.slice ak lk ck,.int .i64 vr,.slice kka kkn kkc] 77)).heap.size (w.alloc (.cells #[.int .i64 8,.bool sd,.slice ad ld cd,.slice ap np cp,.bool sk,.slice ak lk ck,.int .i64 vr,.slice kka kkn kkc] 77)) w'→Calls Tryz.prog 41 #[.pointer (some ⟨pa,0,none⟩),.int .i64 8,.int .i64 vr,.int .i64 y] w' fun e w''=>AO2 w' w'' e pa pm nn kk F (actB nn kk s 8 vr y)):=hide fun w' k=>bind_ao2 (hE1.below k).g hvI hyI (hE1.below k).tab
 have hrel:Hid (AgR nn kk s i [y] (actB nn kk s 8 vr y)):=hide (by rw[hve,←hk];exact .inr (.inr (.inl ⟨.inr hk,rfl⟩)))
 clear hE hE1 hN hI hI1 hn hn1 hkF hkc hkd hk hke hve hkl
 go_enter Tryz.func48,Tryz.ntmps48
 go_wp2_with fail
 refine wp_region_held_drew (S:=fun w'=>w'.cell? ⟨bn,0,none⟩=some (.pointer (some ⟨pa,0,none⟩))∧w'.cell? ⟨w.heap.size,0,none⟩=some (.int .i64 8)∧w'.cell? ⟨w.heap.size,6,none⟩=some (.int .i64 vr)∧w'.cell? ⟨kb,ko,none⟩=some (.int .i64 y)) k_f (hS.out _ (below_drew2 (Below.refl _ _))) (fun hHeld=> ?_)
 show wpAnyH _ _ _ _ _ 13 _ _ _
 refine tkz 0 28 ?_
 (try simp only[pz])
 refine tkz 1 29 ?_
 (try simp only[pz])
 refine tkz 2 30 ?_
 (try simp only[pz])
 refine tkz 3 31 ?_
 (try simp only[pz])
 refine tkz 4 32 ?_
 (try simp only[pz])
 refine tkz 5 33 ?_
 (try simp only[pz])
 refine tkz 6 34 ?_
 (try simp only[pz])
 refine tkz 7 35 ?_
 (try simp only[pz])
 refine ryz 8 (some 36) (fun K' hK=> ?_) AllReadyH.nil
 clear hHeld
 rw[if_pos k_f]
 go_simp
 refine Calls.mono (hbind.out _ (below_drew2 (Below.refl _ _))) ?_
 rintro e w2 ⟨rfl,F',hG',hF',hB'⟩
 have hS2:=hide (hSa.out w2 hB')
 have hfin:Hid (∃r,AgR nn kk s i [y] r∧AO2 w w2 (.returned (.tuple #[.int .i64 (actB nn kk s 8 vr y).2.1,.int .i64 (actB nn kk s 8 vr y).2.2])) pa pm nn kk F r):=hide ⟨actB nn kk s 8 vr y,hrel.out,ao2_back (below_drew2 b1.out) ⟨rfl,F',hG',hF',hB'⟩⟩
 clear hbind hG' hF' hB' hS hSa
 (try go_wp2_with fail)
 refine hK.out _ _ ?_ ?_
 ·(try dsimp only);exact hS2.out
 clear hK;intro hHeld
 (try simp only[pz])
 refine tkz 9 37 ?_
 (try simp only[pz])
 refine tkz 10 38 ?_
 (try simp only[pz])
 refine tkz 11 7 ?_
 (try simp only[pz])
 refine tkz 12 8 ?_
 (try simp only[pz])
 clear hHeld hS2
 refine wpAnyH_done k_f ?_ _
 go_wp2_with fail
 refine bodyPost_ret (results_tmp2 rfl _ _ _) rfl ?_
 exact hfin.out
end Nt
namespace Nt
theorem negate1_n {w0 w:World}{pa pm bn:Nat}{nn kk:Int}{s:St}{F:Nat→Prop}{i:Int}{x:NR}{ks:List Int}{ka:Option Addr}{kc:Nat}(hE:EA w0 w pa pm nn kk s F)(hn:w.heap[bn]? =some (.cells #[.pointer (some ⟨pa,0,none⟩)] 26 (0,0)))(hnF: ¬F bn∧bn≠pm)(hi:okI s.L i)(hN:NC (fun _=>True) w x (ndI s.L i) 1048576)(hI:IL w ka ks.length ks)(hok: ∀k∈ks,okI s.L k)(hkl:ks.length=(ndI s.L i).kids.length)(hkF:InF (fun b=> ¬F b∧b≠pm) ka ks.length):
  Calls Tryz.prog 46 #[.int .i64 i,.agg (nE x),.slice ka ks.length kc,.pointer (some ⟨bn,0,none⟩)] w fun e w'=> ∃r,NegR nn kk s i ks r∧AO2 w w' e pa pm nn kk F r:=by
 have hkd:=hE.v.kinds hi
 rcases(show(ndI s.L i).kind=5∨(ndI s.L i).kind=6∨(ndI s.L i).kind=7∨(ndI s.L i).kind=8∨(ndI s.L i).kind<5 by omega)with hk|hk|hk|hk|hk
 ·exact negate5 hE hn hnF hi hk hN hI hok hkl hkF
 ·exact negate6 hE hn hnF hi hk hN hI hok hkl hkF
 ·exact negate7 hE hn hnF hi hk hN hI hok hkl hkF
 ·exact negate8 hE hn hnF hi hk hN hI hok hkl hkF
 exact negate0 hE hn hnF hi hk hN hI hok hkl hkF
theorem again1_n {w0 w:World}{pa pm bn:Nat}{nn kk:Int}{s:St}{F:Nat→Prop}{i:Int}{x:NR}{ks:List Int}{ka:Option Addr}{kc:Nat}(hE:EA w0 w pa pm nn kk s F)(hn:w.heap[bn]? =some (.cells #[.pointer (some ⟨pa,0,none⟩)] 26 (0,0)))(hnF: ¬F bn∧bn≠pm)(hi:okI s.L i)(hN:NC (fun _=>True) w x (ndI s.L i) 1048576)(hI:IL w ka ks.length ks)(hok: ∀k∈ks,okI s.L k)(hkl:ks.length=(ndI s.L i).kids.length)(hkF:InF (fun b=> ¬F b∧b≠pm) ka ks.length):
  Calls Tryz.prog 48 #[.int .i64 i,.agg (nE x),.slice ka ks.length kc,.pointer (some ⟨bn,0,none⟩)] w fun e w'=> ∃r,AgR nn kk s i ks r∧AO2 w w' e pa pm nn kk F r:=by
 have hkd:=hE.v.kinds hi
 rcases(show(ndI s.L i).kind=5∨(ndI s.L i).kind=6∨(ndI s.L i).kind=7∨(ndI s.L i).kind=8∨(ndI s.L i).kind<5 by omega)with hk|hk|hk|hk|hk
 ·exact again5 hE hn hnF hi hk hN hI hok hkl hkF
 ·exact again6 hE hn hnF hi hk hN hI hok hkl hkF
 ·exact again7 hE hn hnF hi hk hN hI hok hkl hkF
 ·exact again8 hE hn hnF hi hk hN hI hok hkl hkF
 exact again0 hE hn hnF hi hk hN hI hok hkl hkF
end Nt
namespace Nt

theorem mono_opp (kk:Int):Mono kk OppJ:=fun _ _ _ _ h1 h2 h3 h4 h5 h6=>oppJ_le h1.wk h2.wk h3 h4 h5 h6
theorem mono_sam (kk:Int):Mono kk SamJ:=fun _ _ _ _ h1 h2 h3 h4 h5 h6=>samJ_le h1.wk h2.wk h3 h4 h5 h6
theorem putE_z0 {nn kk:Int}{s:St}{n:Nd}(he:(putE nn kk s n).2.2≠0):(putE nn kk s n).2.1=0:=by
 rcases putE_cases nn kk s n with⟨i,g1,e⟩|⟨_,er,g1,e,_⟩|⟨_,_,_,e⟩
 ·rw[e]at he
  exact absurd rfl he
 ·rw[e]
 rw[e]at he
 exact absurd rfl he
theorem actB_z0 {nn kk:Int}{s:St}{kd v k:Int}(he:(actB nn kk s kd v k).2.2≠0):(actB nn kk s kd v k).2.1=0:=by
 unfold actB at he ⊢
 split at he <;> rename_i h1
 ·rw[if_pos h1]
 rw[if_neg h1]
 split at he <;> rename_i h2
 ·rw[if_pos h2]
 rw[if_neg h2]
 exact putE_z0 he
theorem SimpR.z0 {nn kk:Int}{s:St}{kd dual idle rul sg:Int}{ids:List Int}{r:St × Int × Int}(h:SimpR nn kk s kd dual idle rul sg ids r)(hkd:kd=5∨kd=6)(he:r.2.2≠0):r.2.1=0:=by
 rcases h with⟨_,rfl⟩|⟨_,⟨_,rfl⟩|⟨_,l,hl,rfl⟩⟩
 ·rfl
 ·exact absurd rfl he
 rcases actJ_cases (nn:=nn) (kk:=kk) hkd (fun x hx=>((hl x).1 hx).1.1.2.1)with⟨_,e⟩|⟨x,_,e⟩|⟨_,e⟩
 ·rw[e]at he
  exact absurd rfl he
 ·rw[e]at he
  exact absurd rfl he
 rw[e]at he ⊢
 exact putE_z0 he
theorem NegR.z0 {nn kk:Int}{s:St}{i:Int}{ks:List Int}{r:St × Int × Int}(h:NegR nn kk s i ks r)(he:r.2.2≠0):r.2.1=0:=by
 rcases h with⟨_,h⟩|⟨_,h⟩|⟨hk,rfl⟩|⟨hk,rfl⟩|⟨hk,rfl⟩
 ·exact h.z0 (.inr rfl) he
 ·exact h.z0 (.inl rfl) he
 ·exact actB_z0 he
 ·exact actB_z0 he
 exact putE_z0 he
theorem AgR.z0 {nn kk:Int}{s:St}{i:Int}{ks:List Int}{r:St × Int × Int}(h:AgR nn kk s i ks r)(he:r.2.2≠0):r.2.1=0:=by
 rcases h with⟨_,h⟩|⟨_,h⟩|⟨hk,rfl⟩|⟨hk,rfl⟩
 ·exact h.z0 (.inl rfl) he
 ·exact h.z0 (.inr rfl) he
 ·exact actB_z0 he
 exact absurd rfl he
theorem mkr_neg (w0:World)(B:Bl)(pa pm:Nat)(nn kk:Int):Mkr w0 B pa pm 46 nn kk OppJ (NegR nn kk) where
 eg:=fun args w=>by kernel_rfl
 mo:=mono_opp kk
 kp:=fun _ _ _ _ h hg hi=>h.kp hg hi
 js:=fun _ _ _ _ h hg hi hp he=>h.opp hg hi hp he
 z0:=fun _ _ _ _ h he=>h.z0 he
 fn:=fun _ _ _ _ _ _ _ _ hE hn hnF hi hN hI hok hkl hkF=>negate1_n hE hn hnF hi hN hI hok hkl hkF
theorem mkr_ag (w0:World)(B:Bl)(pa pm:Nat)(nn kk:Int):Mkr w0 B pa pm 48 nn kk SamJ (AgR nn kk) where
 eg:=fun args w=>by kernel_rfl
 mo:=mono_sam kk
 kp:=fun _ _ _ _ h hg hi=>h.kp hg hi
 js:=fun _ _ _ _ h hg hi hp he=>h.same hg hi hp he
 z0:=fun _ _ _ _ h he=>h.z0 he
 fn:=fun _ _ _ _ _ _ _ _ hE hn hnF hi hN hI hok hkl hkF=>again1_n hE hn hnF hi hN hI hok hkl hkF
theorem anr_back {nn kk:Int}{J:List Nd→Int→Int→Prop}{FR:St→Int→List Int→St × Int × Int→Prop}{w w1 w':World}{e:Ending}{pa pm:Nat}{s:St}{F:Nat→Prop}{id:Int}(k:Below w.heap.size w w1)(h:AnR nn kk J FR w1 w' e pa pm s F id):AnR nn kk J FR w w' e pa pm s F id:=by
 obtain⟨r,h1,h2⟩:=h
 exact⟨r,ao2_back k h1,h2⟩
theorem negate_n {w0 w:World}{pa pm:Nat}{nn kk:Int}{s:St}{F:Nat→Prop}{id:Int}(hE:EA w0 w pa pm nn kk s F)(hI:I64 id):
  Calls Tryz.prog 15 #[.pointer (some ⟨pa,0,none⟩),.int .i64 id] w fun e w'=>AnR nn kk OppJ (NegR nn kk) w w' e pa pm s F id:=by
 have b1:=below_alloc w (.cells #[.pointer (some ⟨pa,0,none⟩)] 26)
 have c1:(w.alloc (.cells #[.pointer (some ⟨pa,0,none⟩)] 26)).heap[w.heap.size]? =some (.cells #[.pointer (some ⟨pa,0,none⟩)] 26 (0,0)):=heap_alloc_new w _
 have hfl:=hE.g.fl
 have hpl:=hE.g.mb.lt
 have hcall:=hide (anew_n (B0:=⟨0,0,0,0,0,w.heap.size⟩) (mkr_neg w0 _ pa pm nn kk) (hE.below b1) c1 ⟨fun h=>by have:=hfl _ h;dsimp only at this;omega,by dsimp only;omega⟩ hI)
 have un:=cell_of_row _ w.heap.size 0 _ _ (0,0) c1
 have hend:Hid (∀e w',AnR nn kk OppJ (NegR nn kk) (w.alloc (.cells #[.pointer (some ⟨pa,0,none⟩)] 26)) w' e pa pm s F id→AnR nn kk OppJ (NegR nn kk) w w' e pa pm s F id):=hide fun e w' h=>anr_back b1 h
 clear hE hI b1 c1 hfl hpl
 go_enter Tryz.func15,Tryz.ntmps15
 go_wp2_with fail
 refine hcall.out.mono ?_
 rintro e w2 h2
 have h3:=hide (hend.out e w2 h2)
 obtain⟨r,⟨rfl,-⟩,-⟩:=h2
 clear hcall hend
 go_wp2_with fail
 refine bodyPost_ret (results_tmp2 rfl _ _ _) rfl ?_
 exact h3.out
theorem again_n {w0 w:World}{pa pm:Nat}{nn kk:Int}{s:St}{F:Nat→Prop}{id:Int}(hE:EA w0 w pa pm nn kk s F)(hI:I64 id):
  Calls Tryz.prog 16 #[.pointer (some ⟨pa,0,none⟩),.int .i64 id] w fun e w'=>AnR nn kk SamJ (AgR nn kk) w w' e pa pm s F id:=by
 have b1:=below_alloc w (.cells #[.pointer (some ⟨pa,0,none⟩)] 26)
 have c1:(w.alloc (.cells #[.pointer (some ⟨pa,0,none⟩)] 26)).heap[w.heap.size]? =some (.cells #[.pointer (some ⟨pa,0,none⟩)] 26 (0,0)):=heap_alloc_new w _
 have hfl:=hE.g.fl
 have hpl:=hE.g.mb.lt
 have hcall:=hide (anew_n (B0:=⟨0,0,0,0,0,w.heap.size⟩) (mkr_ag w0 _ pa pm nn kk) (hE.below b1) c1 ⟨fun h=>by have:=hfl _ h;dsimp only at this;omega,by dsimp only;omega⟩ hI)
 have un:=cell_of_row _ w.heap.size 0 _ _ (0,0) c1
 have hend:Hid (∀e w',AnR nn kk SamJ (AgR nn kk) (w.alloc (.cells #[.pointer (some ⟨pa,0,none⟩)] 26)) w' e pa pm s F id→AnR nn kk SamJ (AgR nn kk) w w' e pa pm s F id):=hide fun e w' h=>anr_back b1 h
 clear hE hI b1 c1 hfl hpl
 go_enter Tryz.func16,Tryz.ntmps16
 go_wp2_with fail
 refine hcall.out.mono ?_
 rintro e w2 h2
 have h3:=hide (hend.out e w2 h2)
 obtain⟨r,⟨rfl,-⟩,-⟩:=h2
 clear hcall hend
 go_wp2_with fail
 refine bodyPost_ret (results_tmp2 rfl _ _ _) rfl ?_
 exact h3.out
end Nt
namespace Nt

end Nt
namespace Nt

def nx1 :Nd:=⟨2,0,[(0,1)],0,0,[]⟩
def nx2 :Nd:=⟨2,0,[(0,-1)],1,0,[]⟩
def sx1 :St:=⟨[cst 0,cst 1,nx1],1,0⟩
def sx2 :St:=⟨[cst 0,cst 1,nx1,nx2],2,0⟩
theorem form_v0 :formA 2 0 (nz (lays [] [(0,1)])) 0= .inl ⟨2,0,[(0,1)],0⟩:=by rfl
theorem putE_made {nn kk:Int}{s:St}{n:Nd}(h: ∀i:Nat,s.L[i]? ≠some n)(he:s.er=0)(hl:((nums n).any fun z=>decide (kk<(lim z:Int)))=false)(hc:1≤nn-s.c):putE nn kk s n=(⟨s.L++ [n],s.c+1,0⟩,(s.L.length:Int),0):=by
 have h7:mstep nn kk s.c s.er (nums n)=(0,s.c+1,0):=by
  unfold mstep
  rw[if_neg (by simp[he]),if_neg (by rw[hl];simp),if_neg o_m]
 unfold putE
 rw[if_neg (spot_no (fun⟨i,hi⟩=>h i hi)),h7,if_pos rfl]
theorem not_in2 {L:List Nd}{n:Nd}(h: ∀x∈L,x≠n)(i:Nat):L[i]? ≠some n:=fun hi=>h n (List.mem_of_getElem? hi) rfl
theorem lim_m1 :lim (-1)=1:=by
 have:=lim_neg 1
 rw[lim_1]at this
 exact this
theorem act_v0 :actA 2000 8 st0 2 0 [(0,1)] 0=(sx1,2,0):=by
 unfold actA
 rw[form_v0]
 show putE 2000 8 st0 nx1=_
 rw[putE_made (not_in (by simp[st0,cst,nx1])) rfl (by simp[nums,nx1,lim_0,lim_1]) (by decide)]
 rfl
theorem put_v0 :putE 2000 8 sx1 nx2=(sx2,3,0):=by
 rw[putE_made (not_in2 (by simp[sx1,cst,nx1,nx2])) rfl (by simp[nums,nx2,lim_0,lim_1,lim_m1]) (by decide)]
 rfl
theorem fit_v0 :Fit ⟨2,0,[(0,1)],0⟩:=form_fit (ps:=[(0,1)]) form_v0
theorem gv_sx1 :Gv 8 sx1.L:=by
 have h:=(kp_put (nn:=2000) (kk:=8) (s:=st0) (n:=nx1) (gv_st0 8) (.inl ⟨_,fit_v0,rfl,by simp⟩)).gv
 rw[putE_made (not_in (by simp[st0,cst,nx1])) rfl (by simp[nums,nx1,lim_0,lim_1]) (by decide)]at h
 exact h
theorem neg_sx1 {r:St × Int × Int}(h:NegR 2000 8 sx1 2 [] r):r=(sx2,3,0):=by
 have e:(ndI sx1.L 2).kind=2:=rfl
 rcases h with⟨h,_⟩|⟨h,_⟩|⟨h,_⟩|⟨h,_⟩|⟨_,h⟩
 ·rw[e]at h;cases h
 ·rw[e]at h;cases h
 ·rw[e]at h;cases h
 ·rw[e]at h;cases h
 rw[h]
 exact put_v0
theorem ok_sx1 :okI sx1.L 2:=⟨by decide,by decide⟩
theorem ok_sx2 :okI sx2.L 2:=⟨by decide,by decide⟩
theorem ok_sx3 :okI sx2.L 3:=⟨by decide,by decide⟩
theorem gv_sx2 :Gv 8 sx2.L:=by
 have h:=(kp_put (nn:=2000) (kk:=8) (s:=sx1) (n:=nx2) gv_sx1 (.inl ⟨_,fit_v0.neg,rfl,by simp[negA,scl]⟩)).gv
 rw[put_v0]at h
 exact h
theorem ag_sx2 {r:St × Int × Int}(h:AgR 2000 8 sx2 2 [] r):r=(sx2,2,0):=by
 have e:(ndI sx2.L 2).kind=2:=rfl
 rcases h with⟨h,_⟩|⟨h,_⟩|⟨h|h,_⟩|⟨_,h⟩
 ·rw[e]at h;cases h
 ·rw[e]at h;cases h
 ·rw[e]at h;cases h
 ·rw[e]at h;cases h
 exact h
theorem k2_sx2 :(ndI sx2.L 2).kind=2:=rfl
theorem k3_sx2 :(ndI sx2.L 3).kind=2:=rfl
theorem mem_sx2 {kd idle:Int}(hk:kd=5∨kd=6)(hi:idle=0∨idle=1)(x:Int):Mem sx2.L kd idle [2,3] x↔x=2∨x=3:=by
 constructor
 ·rintro⟨h,_⟩
  refine h (fun x=>x=2∨x=3) (by simp) fun y z hy _ hkd _=> ?_
  rcases hy with rfl|rfl
  ·rw[k2_sx2]at hkd;omega
  rw[k3_sx2]at hkd;omega
 rintro(rfl|rfl)
 ·exact⟨rk_id (by simp),ok_sx2,by rw[k2_sx2];omega,by omega⟩
 exact⟨rk_id (by simp),ok_sx3,by rw[k3_sx2];omega,by omega⟩
theorem stay_sx2 {kd idle:Int}(sg:Int)(hk:kd=5∨kd=6)(hi:idle=0∨idle=1)(x:Int)(hx:x=2∨x=3):Stay sx2.L sg (Mem sx2.L kd idle [2,3]) x:=by
 refine⟨(mem_sx2 hk hi x).2 hx,?_,fun y hy _ hp=> ?_⟩
 ·rcases hx with rfl|rfl
  ·exact k2_sx2
  exact k3_sx2
 rcases(mem_sx2 hk hi y).1 hy with rfl|rfl <;> rcases hx with rfl|rfl
 ·exact Int.lt_irrefl _
 ·exact absurd hp (by simp[ndI,sx2,nx1,nx2])
 ·exact absurd hp (by simp[ndI,sx2,nx1,nx2])
 exact Int.lt_irrefl _
theorem join_sx2 {kd dual idle rul sg:Int}(hk:kd=5∨kd=6)(hi:idle=0∨idle=1){r:St × Int × Int}(h:SimpR 2000 8 sx2 kd dual idle rul sg [2,3] r):r=(sx2,rul,0):=by
 have hc:Clash sx2.L sg (Mem sx2.L kd idle [2,3]):=⟨2,3,stay_sx2 sg hk hi 2 (.inl rfl),stay_sx2 sg hk hi 3 (.inr rfl),rfl,by
  rw[show(ndI sx2.L 2).k=0 from rfl,show(ndI sx2.L 3).k=1 from rfl];omega⟩
 rcases h with⟨⟨x,hx,hn⟩,_⟩|⟨_,⟨_,h⟩|⟨h,_⟩⟩
 ·rcases(show x=2∨x=3 by simpa using hx)with rfl|rfl
  ·exact absurd ok_sx2 hn
  exact absurd ok_sx3 hn
 ·exact h
 exact absurd (.inr (.inl hc)) h
theorem EA.step {w0 w w':World}{e:Ending}{pa pm:Nat}{nn kk:Int}{s s':St}{F:Nat→Prop}{r:St × Int × Int}{x er:Int}(h:EA w0 w pa pm nn kk s F)(ha:AO2 w w' e pa pm nn kk F r)(hr:r=(s',x,er))(hv:Gv kk s'.L):e= .returned (.tuple #[.int .i64 x,.int .i64 er])∧∃F',EA w0 w' pa pm nn kk s' F':=by
 subst hr
 obtain⟨F',h1,_⟩:=h.next ha hv
 exact⟨ha.1,F',h1⟩
end Nt
namespace Nt

theorem il_23 (w:World):IL (w.alloc (.cells #[.int .i64 2,.int .i64 3] 3)) (some ⟨w.heap.size,0,none⟩) ([2,3]:List Int).length [2,3]:=by
 have hc0:(w.alloc (.cells #[.int .i64 2,.int .i64 3] 3)).heap[w.heap.size]? =some (.cells #[.int .i64 2,.int .i64 3] 3 (0,0)):=heap_alloc_new w _
 exact⟨rfl,.inr ⟨w.heap.size,0,rfl,by simp,fun i hi=>by
  obtain rfl|rfl:i=0∨i=1:=by simp at hi;omega
  ·exact⟨cell_of_row _ w.heap.size 0 _ _ (0,0) hc0,show I64 2 by unfold I64;decide⟩
  exact⟨cell_of_row _ w.heap.size 1 _ _ (0,0) hc0,show I64 3 by unfold I64;decide⟩⟩⟩
def StP (w0:World)(pa pm:Nat)(s:St)(x:Int)(e:Ending)(w':World):Prop:=e= .returned (.tuple #[.int .i64 x,.int .i64 0])∧∃F,EA w0 w' pa pm 2000 8 s F
theorem and_23 {w0 w:World}{pa pm:Nat}{F:Nat→Prop}(h:EA w0 w pa pm 2000 8 sx2 F):Calls Tryz.prog 17 #[.pointer (some ⟨pa,0,none⟩),.slice (some ⟨w.heap.size,0,none⟩) 2 2] (w.alloc (.cells #[.int .i64 2,.int .i64 3] 3)) (StP w0 pa pm sx2 0):=by
 have hE:=h.below (below_alloc w (.cells #[.int .i64 2,.int .i64 3] 3))
 refine Calls.mono (and9_n (kc:=2) (ids:=[2,3]) hE.g hE.v hE.k0 (by decide) (il_23 w) (by simp) hE.tab) ?_
 rintro e w' ⟨r,hs,ha⟩
 exact hE.step ha (join_sx2 (.inl rfl) (.inr rfl) hs) gv_sx2
theorem or_23 {w0 w:World}{pa pm:Nat}{F:Nat→Prop}(h:EA w0 w pa pm 2000 8 sx2 F):Calls Tryz.prog 18 #[.pointer (some ⟨pa,0,none⟩),.slice (some ⟨w.heap.size,0,none⟩) 2 2] (w.alloc (.cells #[.int .i64 2,.int .i64 3] 3)) (StP w0 pa pm sx2 1):=by
 have hE:=h.below (below_alloc w (.cells #[.int .i64 2,.int .i64 3] 3))
 refine Calls.mono (or9_n (kc:=2) (ids:=[2,3]) hE.g hE.v hE.k0 (by decide) (il_23 w) (by simp) hE.tab) ?_
 rintro e w' ⟨r,hs,ha⟩
 exact hE.step ha (join_sx2 (.inr rfl) (.inl rfl) hs) gv_sx2
theorem neg_2 {w0 w:World}{pa pm:Nat}{F:Nat→Prop}(hE:EA w0 w pa pm 2000 8 sx1 F):Calls Tryz.prog 15 #[.pointer (some ⟨pa,0,none⟩),.int .i64 2] w (StP w0 pa pm sx2 3):=by
 refine Calls.mono (negate_n hE (by unfold I64;decide)) ?_
 rintro e w' ⟨r,ha,-,-,hf,-⟩
 exact hE.step ha (neg_sx1 (hf rfl ok_sx1)) gv_sx2
theorem ag_2 {w0 w:World}{pa pm:Nat}{F:Nat→Prop}(hE:EA w0 w pa pm 2000 8 sx2 F):Calls Tryz.prog 16 #[.pointer (some ⟨pa,0,none⟩),.int .i64 2] w (StP w0 pa pm sx2 2):=by
 refine Calls.mono (again_n hE (by unfold I64;decide)) ?_
 rintro e w' ⟨r,ha,-,-,hf,-⟩
 exact hE.step ha (ag_sx2 (hf rfl ok_sx2)) gv_sx2
theorem awake9_n {w:World}(htab:Tab w):Calls Tryz.prog 9 #[] w fun e w'=>e= .returned (.bool true)∧Below w.heap.size w w':=by
 replace htab:=hide htab
 go_enter Tryz.func9,Tryz.ntmps9
 go_wp2_with fail
 refine(new_ag htab.out).mono ?_
 rintro e w1 ⟨pa,pm,F,rfl,hG,hF,hpw,k1⟩
 have hE:Hid (EA w w1 pa pm 2000 8 st0 F):=hide ⟨hG,gv_st0 8,hF,hpw,k1,htab.out,by decide,by decide⟩
 clear hG hF hpw k1 htab
 go_wp2_with fail
 refine(tvar_n (v:=0) (B:=2) (by unfold I64;decide) o_m).mono ?_
 rintro e w2 ⟨ad2,cp2,rs2,rfl,hT2,hr2⟩
 obtain⟨hP2,hZ2,hl2⟩:=hT2.tw
 rw[hr2]at hP2
 replace hE:=hide (hE.out.below hT2.below)
 have hcall:=hide (atom_ao2 (B:=2) (kd:=2) (cp:=cp2) hE.out.g (zn_zero _).zm o_m hP2 hZ2 hl2 o_m o_m hE.out.tab)
 clear hT2 hP2 hZ2 hl2 hr2
 go_wp2_with fail
 refine hcall.out.mono ?_
 rintro e w3 ha
 obtain⟨rfl,F3,hE3⟩:=hE.out.step ha act_v0 gv_sx1
 clear ha hcall hE
 replace hE3:=hide hE3
 go_wp2_with fail
 refine(neg_2 hE3.out).mono ?_
 rintro e w4 ⟨rfl,F4,hE4⟩
 clear hE3
 replace hE4:=hide hE4
 go_wp2_with fail
 refine(and_23 hE4.out).mono ?_
 rintro e w5 ⟨rfl,F5,hE5⟩
 clear hE4
 replace hE5:=hide hE5
 go_wp2_with fail
 refine(or_23 hE5.out).mono ?_
 rintro e w6 ⟨rfl,F6,hE6⟩
 clear hE5
 replace hE6:=hide hE6
 go_wp2_with fail
 refine(ag_2 hE6.out).mono ?_
 rintro e w7 ⟨rfl,F7,hE7⟩
 clear hE6
 replace hE7:=hide hE7.k
 go_wp2_with fail
 go_ret
 exact⟨rfl,hE7.out⟩
end Nt
namespace Nt

def pickL (ks ids:List Int):List Int:=(ks.take 12).map (ofK ids)
theorem picked_n {w:World}{ka:Option Addr}{kn kc:Nat}{ks ids:List Int}{ia:Option Addr}{ic:Nat}(hI:IL w ka kn ks)(hkn:kn≤1048576)(hN:IL w ia ids.length ids)(h0:ids≠ [])(hl:ids.length≤1000):
  Calls Tryz.prog 12 #[.slice ia ids.length ic,.slice ka kn kc,.bool false] w fun e w'=> ∃v,e= .returned v∧w'.ownsRow w.heap.size 3 1 v (pickL ks ids).length ((pickL ks ids).map (Value.int .i64))∧Below w.heap.size w w':=by
 go_enter Tryz.func12,Tryz.ntmps12
 go_wp2_with fail
 obtain⟨i0,hi,hz0,hz1,hz2⟩:=info_parts infoI
 have hk:=hI.1
 have hn0:=List.length_pos_iff.2 h0
 go_loopw [7,8] (fun vv i wr=> ∃t:Nat,t≤kn∧t≤12∧i= .int .i64 t∧Hid (wr.ownsRow w.heap.size 3 1 vv t (((ks.take t).map (ofK ids)).map (Value.int .i64)))∧Hid (Below w.heap.size w wr)) (fun _ i _=>12-(intOf i).toNat)
 case atStart=>exact⟨0,Nat.zero_le _,Nat.zero_le _,rfl,World.ownsRow_nil _ _ _ _,Below.refl _ _⟩
 case round=>
  obtain⟨t,ht,ht5,rfl,hrow,kr⟩:=hrel
  by_cases htn:t<kn∧t<12
  ·rcases(hI.below kr.out).2 with h|⟨b1,o1,rfl,hb1,h1⟩
   ·omega
   rcases(hN.below kr.out).2 with h|⟨b2,o2,rfl,hb2,h2⟩
   ·omega
   obtain⟨e1,i1⟩:=h1 t o_m
   have hpk:=pick_lt ks[t] (n:=(ids.length:Int)) o_m
   obtain⟨e2,i2⟩:=h2 (pick ks[t] ids.length).toNat o_m
   have hof:Hid (ids[(pick ks[t] ids.length).toNat]=ofK ids ks[t]):=hide (by unfold ofK;rw[List.getD_eq_getElem?_getD,List.getElem?_eq_getElem o_m];rfl)
   rw[hof.out]at e2
   have hps:Hid (ks.take (t+1)=ks.take t++ [ks[t]]):=hide (List.take_succ_eq_append_getElem o_m)
   obtain⟨q,hq⟩: ∃q:Nat,pick ks[t] ids.length=(q:Int):=⟨(pick ks[t] ids.length).toNat,by omega⟩
   have hpick:=hide (pick_n (w:=wr) i1 (n:=(ids.length:Int)) o_m)
   rw[hq]at hpick e2 hpk
   simp only[Int.toNat_natCast]at e2
   clear hof i2 i1
   generalize ks[t]=kt at*
   clear h1 h2
   have hbase:=hide kr.out.size
   go_wp2_with fail
   refine hpick.out.mono ?_
   rintro e w1 ⟨rfl,rfl⟩
   go_wp2_with(at_builtin;refine wpList_append_own_at _ rfl _ _ 23 rfl w.heap.size 3 i0 _ 1 8 Tryz.underlying23 hi hz0 hz1 hz2 rfl (by decide) _ _ _ rfl (hrow.out.alloc _) ⟨w1.heap.size,0,none⟩ 1 1 [.int .i64 (ofK ids kt)] rfl rfl (by simpa using cell_one_new w1 (.int .i64 (ofK ids kt)) 3) (by simp[Value.oneCell']) (by unfold maxLen;omega) o_m (by have:=hbase.out;simp;omega) ?_;intro v' w4 hown' hgrow hnil hat')
   have ka4:=below_alloc w1 (.cells #[.int .i64 (ofK ids kt)] 3)
   have k4:Below w.heap.size w w4:=(grow_step ka4 kr.out).grown hgrow (grow_step ka4 kr.out).size (fun k e=>(hrow.out.lt k e).1)
   refine⟨⟨t+1,by omega,by omega,by go_num,hide ?_,hide k4⟩,by simp[intOf];omega⟩
   rw[hps.out,List.map_append,List.map_append]
   exact hown'
  have htk:ks.take t=ks.take 12:=by
   by_cases h5:t=12
   ·rw[h5]
   rw[List.take_of_length_le o_m,List.take_of_length_le o_m]
  have hlen:(pickL ks ids).length=t:=by unfold pickL;rw[←htk,List.length_map,List.length_take];omega
  have hfin:Hid (wr.ownsRow w.heap.size 3 1 u7 (pickL ks ids).length ((pickL ks ids).map (Value.int .i64))):=hide (by rw[hlen];unfold pickL;rw[←htk];exact hrow.out)
  clear hlen htk hrow
  by_cases hq:t<kn
  ·go_wp2_with fail
   go_ret
   exact⟨_,rfl,hfin.out,kr.out⟩
  go_wp2_with fail
  go_ret
  exact⟨_,rfl,hfin.out,kr.out⟩
end Nt
namespace Nt

end Nt
namespace Nt

end Nt
namespace Nt

end Nt
namespace Nt

theorem gv_run {R:List Mk}(hm: ∀m∈R,Sm m):Gv 8 (runW 2000 8 (st0,[0,1]) R).1.L∧∀x∈(runW 2000 8 (st0,[0,1]) R).2,okI (runW 2000 8 (st0,[0,1]) R).1.L x:=by
 have hin:In st0 [0,1]:=⟨by simp,fun x hx=>by
  rcases(show x=0∨x=1 by simpa using hx)with rfl|rfl
  ·exact⟨by decide,by decide⟩
  exact⟨by decide,by decide⟩⟩
 have hgs:=run_gs (nn:=2000) (kk:=8) R (st0_gs 8) hin hm
 have hu:=run_uq (nn:=2000) (kk:=8) (ids:=[0,1]) R st0_uq
 obtain⟨⟨t,ht⟩,_⟩:=run_le 2000 8 R st0 [0,1]
 have h0:(runW 2000 8 (st0,[0,1]) R).1.L[0]? =some (cst 0):=by rw[ht];rfl
 have h1:(runW 2000 8 (st0,[0,1]) R).1.L[1]? =some (cst 1):=by rw[ht];rfl
 exact⟨gv_of hu h0 h1 hgs.1 (by decide) lim_0,fun x hx=>hgs.2.2 x hx⟩
end Nt
namespace Nt

structure MS (w0 wr:World) (pa pm:Nat) (s s':St) (F':Nat→Prop) (a:Option Addr) (n:Nat) (P:List Int):Prop where
 e:EA w0 wr pa pm 2000 8 s' F'
 le: ∃t,s'.L=s.L++t
 il:IL wr a n P
 inf:InF (fun b=>b<wr.heap.size∧¬F' b∧b≠pm) a n
theorem MS.below {w0 w w':World}{pa pm:Nat}{s s':St}{F:Nat→Prop}{a:Option Addr}{n:Nat}{P:List Int}(h:MS w0 w pa pm s s' F a n P)(k:Below w.heap.size w w'):MS w0 w' pa pm s s' F a n P:=
 ⟨h.e.below k,h.le,h.il.below k,h.inf.mono fun _ hb=>⟨Nat.lt_of_lt_of_le hb.1 k.size,hb.2⟩⟩
end Nt
namespace Nt

theorem MS.at {w0 wr:World}{pa pm:Nat}{s s':St}{F':Nat→Prop}{b o:Nat}{P:List Int}(h:MS w0 wr pa pm s s' F' (some ⟨b,o,none⟩) P.length P){t:Nat}(ht:t<P.length):wr.cell? ⟨b,o+t,none⟩=some (.int .i64 P[t]):=by
 rcases h.il.2 with h0|⟨b1,o1,e,_,h2⟩
 ·omega
 cases e
 exact(h2 t ht).1
end Nt
namespace Nt

theorem ml_sm9 {w:World}{ad:Option Addr}{n:Nat}{R:List Mk}{B:Nat}(h:ML w ad n R B): ∀m∈R,Sm m:=by
 intro m hm
 obtain⟨i,hi,rfl⟩:=List.getElem_of_mem hm
 rcases h.2 with h0|⟨b,off,_,_,h2⟩
 ·have:=h.1
  omega
 obtain⟨sd,ad,ld,cd,ap,np,cp,sk,ak,lk,ck,ka,kn,kc,_,_,_,hP,hnp,_⟩:=h2 i hi
 have h3:(R[i].xp).length=np:=hP.1
 have h4:=std_len (std_lays R[i].xp) fun v=>csum_nzl R[i].xp v
 unfold Sm
 omega
end Nt
end Go.Proofs.YtllfelooahplhaaGreatDoor
