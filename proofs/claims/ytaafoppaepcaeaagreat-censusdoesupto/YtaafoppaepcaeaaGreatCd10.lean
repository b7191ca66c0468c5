/-
  Layer 18: rows in memory: newRow,bit,has,add.
-/
import Derived.Test.YtaafoppaepcaeaaGreatCd00
import Derived.Test.YtaafoppaepcaeaaGreatCd06
import Derived.BigQuiet
import Derived.Deep.QuietTactic
import Derived.Deep.RegionWith
set_option maxRecDepth 100000
set_option maxHeartbeats 1600000
namespace Go.Proofs.YtaafoppaepcaeaaGreat
open Go.RowKit
namespace Pd

variable {xs:List Int}{w:World}{b:Nat}
def Uw (xs:List Int):Array Value:=(xs.map (Value.int .u64)).toArray
theorem Uw_size (xs:List Int):(Uw xs).size=xs.length:=by simp[Uw]
theorem Uw_get {i:Nat}(h:i<xs.length):(Uw xs)[i]? =some (.int .u64 (lz xs i)):=by
  simp[Uw,lz,h]
theorem Uw_set {i:Nat}(x:Int):(Uw xs).setIfInBounds i (.int .u64 x)=Uw (xs.set i x):=by
  apply Array.ext'
  simp[Uw,List.map_set]
def RB (w:World)(b:Nat)(xs:List Int):Prop:=w.heap[b]? =some (.cells (Uw xs) 111 (0,0))
theorem RB.cell (h:RB w b xs){i:Nat}(hi:i<xs.length):w.cell? ⟨b,i,none⟩=some (.int .u64 (lz xs i)):=by
  rw[cell_of_row w b i (Uw xs) 111 (0,0) h];exact Uw_get hi
theorem RB.frozen (h:RB w b xs)(i:Nat):w.frozen? ⟨b,i,none⟩=false:=
  frozen_of_row w b i (Uw xs) 111 h
theorem RB.lt (h:RB w b xs):b<w.heap.size:=by
  by_cases hb:b<w.heap.size
  · exact hb
  rw[RB,Array.getElem?_eq_none o_m]at h;cases h
theorem RB.set (h:RB w b xs)(i:Nat)(x:Int):RB (w.setCell ⟨b,i,none⟩ (.int .u64 x)) b (xs.set i x):=by
  have:=heap_setCell_same w b i (Uw xs) 111 (.int .u64 x) h
  rw[Uw_set]at this
  exact this
theorem RB.below {w':World}(h:RB w b xs)(k:Below w.heap.size w w'):RB w' b xs:=(k.block b h.lt).trans h
theorem RB.only {w':World}{c:Nat}(h:RB w b xs)(k:Only c w w')(hc:b≠c):RB w' b xs:=(k.block b hc).trans h
theorem rb_new (w:World)(xs:List Int):RB (w.alloc (.cells (Uw xs) 111)) w.heap.size xs:=heap_alloc_new w _
theorem info64 :(Tryz.prog.info? 111).map (fun i=>(i.zero,i.size,i.bytes))=some (some (.int .u64 0),1,8):=by kernel_rfl
theorem made_zero64 (n:Nat):madeCells #[.int .u64 0] n=Uw (List.replicate n 0):=by
  apply Array.ext'
  rw[toList_madeCells_one]
  simp[Uw]
theorem run_mkW (n:Nat)(hn:n≤1073741824)(u:World):(Instr.makeSlice 74 (.int .i64 (n:Int)) (.int .i64 (n:Int))).run Tryz.prog u=
      .ok (.slice (some ⟨u.heap.size,0,none⟩) n n) (u.alloc (.cells (Uw (List.replicate n 0)) 111)):=by
  obtain⟨i0,hi,hz0,hz1,hz2⟩:=info_parts info64
  have h:=run_make (P:=Tryz.prog) u 74 111 i0 (.int .u64 0) Tryz.underlying74 hi hz0 .i64 .i64 (n:Int) (n:Int) o_m (Int.le_refl _) (by rw[hz2];omega) o_m
  rw[Int.toNat_natCast]at h
  rw[←made_zero64]
  simpa [hz1,Value.cells] using h
theorem wn_div (p:Nat):((p:Int)+64-1) / 64=(wn p:Int):=by unfold wn;omega
theorem newRow_n {p:Nat}(h2:p≤4096)(w:World):
    Calls Tryz.prog 39 #[.int .i64 p] w fun e w'=>e= .returned (.slice (some ⟨w.heap.size,0,none⟩) (wn p) (wn p))∧w'=w.alloc (.cells (Uw (List.replicate (wn p) 0)) 111):=by
  have hmk:=run_mkW (wn p) (by unfold wn;omega)
  rw[←wn_div]at hmk
  go_enter Tryz.func39,Tryz.ntmps39
  go_wp2
  exact bodyPost_ret (results_tmp rfl _ _ _) rfl ⟨rfl,rfl⟩
theorem shl_w' {k:Nat}(h:k<64):IntKind.u64.wrap (2^k)=((2^k:Nat):Int):=by
  have:=shl_w h
  rwa [Int.one_mul]at this
theorem bit_n (r:Nat)(hr:r≤4096)(w:World):
    Calls Tryz.prog 126 #[.int .i64 r] w fun e w'=>e= .returned (.int .u64 ((2^(r%64):Nat):Int))∧w'=w:=by
  have hs:=hide (shl_w' (k:=r%64) o_m)
  go_enter Tryz.func126,Tryz.ntmps126
  go_wp2
  rw[hs.out]
  exact bodyPost_ret (results_tmp rfl _ _ _) rfl ⟨rfl,rfl⟩
theorem has_n {n:Nat}(h:RB w b xs)(hn:xs.length=n)(hw:Ws xs){r:Nat}(hr:r / 64<n)(hr2:r≤4096):
    Calls Tryz.prog 89 #[.slice (some ⟨b,0,none⟩) n n,.int .i64 r] w fun e w'=>e= .returned (.bool (hb xs r))∧∃m,w'=w.drewN m:=by
  have hc:=h.cell (i:=r / 64) o_m
  have hq:IntKind.i64.wrap ((r:Int) / 64)=((r / 64:Nat):Int):=by rw[IntKind.wrap_i64];omega
  have hidx:0≤(r:Int) / 64∧(r:Int) / 64<(n:Int):=by omega
  have htn:((r:Int) / 64).toNat=r / 64:=by omega
  have hx:=hide (and_bit (hw.lz (r / 64)) (k:=r%64) o_m)
  have hn':=hide hn
  clear hn
  generalize hz:lz xs (r / 64)=z at*
  generalize hm:((2^(r%64):Nat):Int)=m at*
  have hbit: ∀u:World,Hid (Calls Tryz.prog 126 #[.int .i64 r] u fun e w'=>e= .returned (.int .u64 m)∧w'=u):=fun u=>hide (by rw[←hm];exact bit_n r hr2 u)
  have hfin:Hid (hb xs r=z.toNat.testBit (r%64)):=hide (by unfold hb;rw[hz])
  replace hz:=hide hz
  replace hm:=hide hm
  go_enter Tryz.func89,Tryz.ntmps89
  go_wp2_with fail
  go_quiet (first|(go_at_call 126;exact Calls.quiet_of_same (hbit _).out))
  go_wp2
  rw[hfin.out,←hx.out]
  exact bodyPost_ret (results_tmp rfl _ _ _) rfl ⟨rfl,_,rfl⟩
theorem add_n {n:Nat}(h:RB w b xs)(hn:xs.length=n){r:Nat}(hr:r / 64<n)(hr2:r≤4096):
    Calls Tryz.prog 85 #[.slice (some ⟨b,0,none⟩) n n,.int .i64 r] w fun e w'=>e= .returned (.tuple #[])∧RB w' b (adB xs r)∧Only b w w':=by
  have hc:=h.cell (i:=r / 64) o_m
  have hidx:0≤(r:Int) / 64∧(r:Int) / 64<(n:Int):=by omega
  have htn:((r:Int) / 64).toNat=r / 64:=by omega
  have hq:IntKind.i64.wrap ((r:Int) / 64)=((r / 64:Nat):Int):=by rw[IntKind.wrap_i64];omega
  have hf:=h.frozen (r / 64)
  generalize hm:((2^(r%64):Nat):Int)=m at*
  have hbit: ∀u:World,Hid (Calls Tryz.prog 126 #[.int .i64 r] u fun e w'=>e= .returned (.int .u64 m)∧w'=u):=fun u=>hide (by rw[←hm];exact bit_n r hr2 u)
  have hfin:Hid (RB (w.setCell ⟨b,r / 64,none⟩ (.int .u64 (bits .or .u64 (lz xs (r / 64)) m))).drew b (adB xs r)∧Only b w (w.setCell ⟨b,r / 64,none⟩ (.int .u64 (bits .or .u64 (lz xs (r / 64)) m))).drew):=hide ⟨by unfold adB;rw[hm];exact RB.set h _ _,(Only.set _ _ _ _).trans (Only.drew _ _)⟩
  replace hm:=hide hm
  replace h:=hide h
  generalize hz:lz xs (r / 64)=z at*
  replace hz:=hide hz
  go_enter Tryz.func85,Tryz.ntmps85
  go_wp2_with fail
  go_region_with (first|(go_at_call 126;refine Calls.mono (hbit _).out ?_;rintro e w' ⟨rfl,rfl⟩))
  all_goals (go_end0;exact⟨rfl,hfin.out⟩)
end Pd
end Go.Proofs.YtaafoppaepcaeaaGreat
