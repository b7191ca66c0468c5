/-
 Several texts in one: XZ, XX.
-/
import Derived.Test.YtcgdhbgjmapoeaaDoorP21
import Derived.Test.YtcgdhbgjmapoeaaDoorP08
namespace Go.Proofs.YtcgdhbgjmapoeaaDoor
open Go.RowKit Go.Shelf
attribute [local go_sem] Oper.semAt_some

def isRegion16 : Code → Bool
 | .region m _ _ => m == 16
 | _ => false
def region16Of : Code → Option Code
 | .rangeFunc _ _ _ b => region16Of b
 | .seq a b => match region16Of a with
  | some c => some c
  | none => region16Of b
 | .cond _ a b => match region16Of a with
  | some c => some c
  | none => region16Of b
 | .block _ c => region16Of c
 | .scope c => region16Of c
 | .loop c => region16Of c
 | c => if isRegion16 c then some c else none
def lwReg16At (f : Func) : Code := (f.body.bind region16Of).getD .skip
/-- the way through the region from where some operations are done -/
def regAny16 (F : Fence) (n : Nat) (P : Program) (c : Code) (Q : Exit → Act → World → Prop) (fuel : Nat) (listed : Array Bool) (a : Act) (w : World) : Prop :=
 match c with
 | .region _ ops _ => wpAnyIn F n P .any ops Q fuel listed a w
 | _ => False
def upTo16 (n m : Nat) : Array Bool := (List.replicate n true ++ List.replicate m false).toArray
theorem anyIn_listed16 {F : Fence} {n : Nat} {P : Program} {md : Region.Mode} {ops : Array Oper} {Q : Exit → Act → World → Prop} {fuel : Nat} {l l' : Array Bool} {a : Act} {w : World} (h : l = l') (k : wpAnyIn F n P md ops Q fuel l' a w) : wpAnyIn F n P md ops Q fuel l a w := h ▸ k

set_option maxRecDepth 100000 in
set_option maxHeartbeats 6400000 in
theorem lw_reg16b {l m b5 bj bt g kk n cap : Nat} {x y : TM} {w0 w5 Wc : World} {u0 u1 u2 u3 u4 u6 u7 u8 u9 u12 u13 u14 u15 u16 u17 u18 u19 u20 u21 u22 u23 u24 u25 u26 u27 u28 u29 u30 u31 u32 u33 u34 u35 u36 u37 u38 u39 u40 u41 u42 u43 u44 u45 u46 u47 u48 u49 u50 u51 u52 u53 u54 u55 u56 u57 u58 u59 u60 u61 u62 u64 u65 u66 u67 u68 u69 u70 u71 u72 u73 u74 u75 u76 u77 u78 u79 u80 u81 u82 u83 u84 u85 u86 u87 u88 u89 u90 u91 u92 u93 u94 u95 u96 : Value}
  (h5c : Wc.cell? ⟨b5, 0, none⟩ = some (.slice (some ⟨g, 0, none⟩) n cap)) (x3c : Wc.cell? ⟨bj, 0, none⟩ = some (.int .i64 kk))
  (y0 : Wc.cell? ⟨bt, 0, none⟩ = some (.int .i64 x.d.kind)) (y1 : Wc.cell? ⟨bt, 1, none⟩ = some (.string x.d.text)) (y2 : Wc.cell? ⟨bt, 2, none⟩ = some (.bool false)) (y4 : Wc.cell? ⟨bt, 3, none⟩ = some (.slice x.ad x.len x.cap)) (y5 : Wc.cell? ⟨bt, 4, none⟩ = some (.int .i64 x.d.at'))
  (q0 : Wc.cell? ⟨g, kk * 5, none⟩ = some (.int .i64 y.d.kind)) (q1 : Wc.cell? ⟨g, kk * 5 + 1, none⟩ = some (.string y.d.text)) (q2 : Wc.cell? ⟨g, kk * 5 + 2, none⟩ = some (.bool false)) (q3 : Wc.cell? ⟨g, kk * 5 + 3, none⟩ = some (.slice y.ad y.len y.cap)) (q4 : Wc.cell? ⟨g, kk * 5 + 4, none⟩ = some (.int .i64 y.d.at'))
  (hk : kk < n) (_hc1 : n ≤ cap) (_hc2 : cap ≤ 9223372036854775807) (_hk4 : kk ≤ 4096) (m3 : Mg w0 Wc x) (hmz : Mg w5 Wc y) (hd : Hid (x.d = y.d)) :
  regAny16 (Fence.wide.inRound l) m Tryd.prog (lwReg16At Tryd.f4) (fun e a' W' => e = .normal ∧ (∃ v59 v60 v61 v62 v63 v64 v65 v66 v67 v68 v69 v70 : Value, a' = ⟨#[u0, u1, u2, u3, u4, .pointer (some ⟨b5, 0, none⟩), u6, u7, u8, u9, .pointer (some ⟨bj, 0, none⟩), .pointer (some ⟨bt, 0, none⟩), u12, u13, u14, u15, u16, u17, u18, u19, u20, u21, u22, u23, u24, u25, u26, u27, u28, u29, u30, u31, u32, u33, u34, u35, u36, u37, u38, u39, u40, u41, u42, u43, u44, u45, u46, u47, u48, u49, u50, u51, u52, u53, u54, u55, u56, u57, u58, v59, v60, v61, v62, v63, v64, v65, v66, v67, v68, v69, v70, .bool false, u72, u73, u74, u75, u76, u77, u78, u79, u80, u81, u82, u83, u84, u85, u86, u87, u88, u89, u90, u91, u92, u93, u94, u95, u96], []⟩) ∧ Below Wc.heap.size Wc W') 8 (upTo16 5 8) ⟨#[u0, u1, u2, u3, u4, .pointer (some ⟨b5, 0, none⟩), u6, u7, u8, u9, .pointer (some ⟨bj, 0, none⟩), .pointer (some ⟨bt, 0, none⟩), u12, u13, u14, u15, u16, u17, u18, u19, u20, u21, u22, u23, u24, u25, u26, u27, u28, u29, u30, u31, u32, u33, u34, u35, u36, u37, u38, u39, u40, u41, u42, u43, u44, u45, u46, u47, u48, u49, u50, u51, u52, u53, u54, u55, u56, u57, u58, u59, u60, u61, u62, .bool false, u64, u65, u66, u67, u68, u69, u70, u71, u72, u73, u74, u75, u76, u77, u78, u79, u80, u81, u82, u83, u84, u85, u86, u87, u88, u89, u90, u91, u92, u93, u94, u95, u96], []⟩ Wc.drew := by
 have hkb : (kk : Int) < n := by omega
 conv in lwReg16At _ => whnf
 dsimp only [regAny16]
 replace m3 := m3.later (Below.refl Wc.heap.size Wc).drew
 replace hmz := hmz.later (Below.refl Wc.heap.size Wc).drew
 refine wpAnyIn_ready (rs := [5, 6, 7]) (by kernel_rfl) (by simp) ?_
 refine AllReadyIn.cons (o := ⟨some 64, _, _, _, _, _⟩) rfl (fun K hK => ?_) ?_
 ·go_simp
  refine hK _ _ ?_
  clear hK K
  refine wpAnyIn_ready (rs := [6, 7]) (by kernel_rfl) (by simp) ?_
  refine AllReadyIn.cons (o := ⟨some 65, _, _, _, _, _⟩) rfl (fun K hK => ?_) ?_
  ·go_simp
   refine hK _ _ ?_
   clear hK K
   refine wpAnyIn_ready (rs := [7]) (by kernel_rfl) (by simp) ?_
   refine AllReadyIn.cons (o := ⟨some 66, _, _, _, _, _⟩) rfl (fun K hK => ?_) ?_
   ·go_simp
    refine hK _ _ ?_
    clear hK K
    refine wpAnyIn_ready (rs := [8]) (by kernel_rfl) (by simp) ?_
    refine AllReadyIn.cons (o := ⟨some 67, _, _, _, _, _⟩) rfl (fun K hK => ?_) ?_
    ·go_simp
     refine hK _ _ ?_
     clear hK K
     refine wpAnyIn_ready (rs := [9]) (by kernel_rfl) (by simp) ?_
     refine AllReadyIn.cons (o := ⟨some 68, _, _, _, _, _⟩) rfl (fun K hK => ?_) ?_
     ·go_simp
      refine hK _ _ ?_
      clear hK K
      refine wpAnyIn_ready (rs := [10]) (by kernel_rfl) (by simp) ?_
      refine AllReadyIn.cons (o := ⟨some 69, _, _, _, _, _⟩) rfl (fun K hK => ?_) ?_
      ·go_simp
       refine ⟨trivial, fun h => absurd h (by decide), ?_⟩; gi_at_call 17; refine (CallsIn.inRound _ (callsIn_wide.2 (is3_e m3 hmz hd.out))).mono ?_; rintro e w3 ⟨rfl, hb3⟩
       (try dsimp only)
       refine hK _ _ ?_
       clear hK K
       refine wpAnyIn_ready (rs := [11]) (by kernel_rfl) (by simp) ?_
       refine AllReadyIn.cons (o := ⟨some 70, _, _, _, _, _⟩) rfl (fun K hK => ?_) ?_
       ·go_simp
        refine hK _ _ ?_
        clear hK K
        refine wpAnyIn_ready (rs := [12]) (by kernel_rfl) (by simp) ?_
        refine AllReadyIn.cons (o := ⟨some 71, _, _, _, _, _⟩) rfl (fun K hK => ?_) ?_
        ·go_simp
         refine hK _ _ ?_
         clear hK K
         refine wpAnyIn_done (by kernel_rfl) ?_ _
         exact ⟨rfl, ⟨_, _, _, _, _, _, _, _, _, _, _, _, rfl⟩, grow_step hb3 (Below.refl Wc.heap.size Wc).drew⟩
        exact AllReadyIn.nil
       exact AllReadyIn.nil
      exact AllReadyIn.nil
     exact AllReadyIn.nil
    exact AllReadyIn.nil
   exact AllReadyIn.nil
  refine AllReadyIn.cons (o := ⟨some 66, _, _, _, _, _⟩) rfl (fun K hK => ?_) ?_
  ·go_simp
   refine hK _ _ ?_
   clear hK K
   refine wpAnyIn_ready (rs := [6]) (by kernel_rfl) (by simp) ?_
   refine AllReadyIn.cons (o := ⟨some 65, _, _, _, _, _⟩) rfl (fun K hK => ?_) ?_
   ·go_simp
    refine hK _ _ ?_
    clear hK K
    refine wpAnyIn_ready (rs := [8]) (by kernel_rfl) (by simp) ?_
    refine AllReadyIn.cons (o := ⟨some 67, _, _, _, _, _⟩) rfl (fun K hK => ?_) ?_
    ·go_simp
     refine hK _ _ ?_
     clear hK K
     refine wpAnyIn_ready (rs := [9]) (by kernel_rfl) (by simp) ?_
     refine AllReadyIn.cons (o := ⟨some 68, _, _, _, _, _⟩) rfl (fun K hK => ?_) ?_
     ·go_simp
      refine hK _ _ ?_
      clear hK K
      refine wpAnyIn_ready (rs := [10]) (by kernel_rfl) (by simp) ?_
      refine AllReadyIn.cons (o := ⟨some 69, _, _, _, _, _⟩) rfl (fun K hK => ?_) ?_
      ·go_simp
       refine ⟨trivial, fun h => absurd h (by decide), ?_⟩; gi_at_call 17; refine (CallsIn.inRound _ (callsIn_wide.2 (is3_e m3 hmz hd.out))).mono ?_; rintro e w3 ⟨rfl, hb3⟩
       (try dsimp only)
       refine hK _ _ ?_
       clear hK K
       refine wpAnyIn_ready (rs := [11]) (by kernel_rfl) (by simp) ?_
       refine AllReadyIn.cons (o := ⟨some 70, _, _, _, _, _⟩) rfl (fun K hK => ?_) ?_
       ·go_simp
        refine hK _ _ ?_
        clear hK K
        refine wpAnyIn_ready (rs := [12]) (by kernel_rfl) (by simp) ?_
        refine AllReadyIn.cons (o := ⟨some 71, _, _, _, _, _⟩) rfl (fun K hK => ?_) ?_
        ·go_simp
         refine hK _ _ ?_
         clear hK K
         refine wpAnyIn_done (by kernel_rfl) ?_ _
         exact ⟨rfl, ⟨_, _, _, _, _, _, _, _, _, _, _, _, rfl⟩, grow_step hb3 (Below.refl Wc.heap.size Wc).drew⟩
        exact AllReadyIn.nil
       exact AllReadyIn.nil
      exact AllReadyIn.nil
     exact AllReadyIn.nil
    exact AllReadyIn.nil
   exact AllReadyIn.nil
  exact AllReadyIn.nil
 refine AllReadyIn.cons (o := ⟨some 65, _, _, _, _, _⟩) rfl (fun K hK => ?_) ?_
 ·go_simp
  refine hK _ _ ?_
  clear hK K
  refine wpAnyIn_ready (rs := [5, 7]) (by kernel_rfl) (by simp) ?_
  refine AllReadyIn.cons (o := ⟨some 64, _, _, _, _, _⟩) rfl (fun K hK => ?_) ?_
  ·go_simp
   refine hK _ _ ?_
   clear hK K
   refine wpAnyIn_ready (rs := [7]) (by kernel_rfl) (by simp) ?_
   refine AllReadyIn.cons (o := ⟨some 66, _, _, _, _, _⟩) rfl (fun K hK => ?_) ?_
   ·go_simp
    refine hK _ _ ?_
    clear hK K
    refine wpAnyIn_ready (rs := [8]) (by kernel_rfl) (by simp) ?_
    refine AllReadyIn.cons (o := ⟨some 67, _, _, _, _, _⟩) rfl (fun K hK => ?_) ?_
    ·go_simp
     refine hK _ _ ?_
     clear hK K
     refine wpAnyIn_ready (rs := [9]) (by kernel_rfl) (by simp) ?_
     refine AllReadyIn.cons (o := ⟨some 68, _, _, _, _, _⟩) rfl (fun K hK => ?_) ?_
     ·go_simp
      refine hK _ _ ?_
      clear hK K
      refine wpAnyIn_ready (rs := [10]) (by kernel_rfl) (by simp) ?_
      refine AllReadyIn.cons (o := ⟨some 69, _, _, _, _, _⟩) rfl (fun K hK => ?_) ?_
      ·go_simp
       refine ⟨trivial, fun h => absurd h (by decide), ?_⟩; gi_at_call 17; refine (CallsIn.inRound _ (callsIn_wide.2 (is3_e m3 hmz hd.out))).mono ?_; rintro e w3 ⟨rfl, hb3⟩
       (try dsimp only)
       refine hK _ _ ?_
       clear hK K
       refine wpAnyIn_ready (rs := [11]) (by kernel_rfl) (by simp) ?_
       refine AllReadyIn.cons (o := ⟨some 70, _, _, _, _, _⟩) rfl (fun K hK => ?_) ?_
       ·go_simp
        refine hK _ _ ?_
        clear hK K
        refine wpAnyIn_ready (rs := [12]) (by kernel_rfl) (by simp) ?_
        refine AllReadyIn.cons (o := ⟨some 71, _, _, _, _, _⟩) rfl (fun K hK => ?_) ?_
        ·go_simp
         refine hK _ _ ?_
         clear hK K
         refine wpAnyIn_done (by kernel_rfl) ?_ _
         exact ⟨rfl, ⟨_, _, _, _, _, _, _, _, _, _, _, _, rfl⟩, grow_step hb3 (Below.refl Wc.heap.size Wc).drew⟩
        exact AllReadyIn.nil
       exact AllReadyIn.nil
      exact AllReadyIn.nil
     exact AllReadyIn.nil
    exact AllReadyIn.nil
   exact AllReadyIn.nil
  refine AllReadyIn.cons (o := ⟨some 66, _, _, _, _, _⟩) rfl (fun K hK => ?_) ?_
  ·go_simp
   refine hK _ _ ?_
   clear hK K
   refine wpAnyIn_ready (rs := [5, 8]) (by kernel_rfl) (by simp) ?_
   refine AllReadyIn.cons (o := ⟨some 64, _, _, _, _, _⟩) rfl (fun K hK => ?_) ?_
   ·go_simp
    refine hK _ _ ?_
    clear hK K
    refine wpAnyIn_ready (rs := [8]) (by kernel_rfl) (by simp) ?_
    refine AllReadyIn.cons (o := ⟨some 67, _, _, _, _, _⟩) rfl (fun K hK => ?_) ?_
    ·go_simp
     refine hK _ _ ?_
     clear hK K
     refine wpAnyIn_ready (rs := [9]) (by kernel_rfl) (by simp) ?_
     refine AllReadyIn.cons (o := ⟨some 68, _, _, _, _, _⟩) rfl (fun K hK => ?_) ?_
     ·go_simp
      refine hK _ _ ?_
      clear hK K
      refine wpAnyIn_ready (rs := [10]) (by kernel_rfl) (by simp) ?_
      refine AllReadyIn.cons (o := ⟨some 69, _, _, _, _, _⟩) rfl (fun K hK => ?_) ?_
      ·go_simp
       refine ⟨trivial, fun h => absurd h (by decide), ?_⟩; gi_at_call 17; refine (CallsIn.inRound _ (callsIn_wide.2 (is3_e m3 hmz hd.out))).mono ?_; rintro e w3 ⟨rfl, hb3⟩
       (try dsimp only)
       refine hK _ _ ?_
       clear hK K
       refine wpAnyIn_ready (rs := [11]) (by kernel_rfl) (by simp) ?_
       refine AllReadyIn.cons (o := ⟨some 70, _, _, _, _, _⟩) rfl (fun K hK => ?_) ?_
       ·go_simp
        refine hK _ _ ?_
        clear hK K
        refine wpAnyIn_ready (rs := [12]) (by kernel_rfl) (by simp) ?_
        refine AllReadyIn.cons (o := ⟨some 71, _, _, _, _, _⟩) rfl (fun K hK => ?_) ?_
        ·go_simp
         refine hK _ _ ?_
         clear hK K
         refine wpAnyIn_done (by kernel_rfl) ?_ _
         exact ⟨rfl, ⟨_, _, _, _, _, _, _, _, _, _, _, _, rfl⟩, grow_step hb3 (Below.refl Wc.heap.size Wc).drew⟩
        exact AllReadyIn.nil
       exact AllReadyIn.nil
      exact AllReadyIn.nil
     exact AllReadyIn.nil
    exact AllReadyIn.nil
   refine AllReadyIn.cons (o := ⟨some 67, _, _, _, _, _⟩) rfl (fun K hK => ?_) ?_
   ·go_simp
    refine hK _ _ ?_
    clear hK K
    refine wpAnyIn_ready (rs := [5, 9]) (by kernel_rfl) (by simp) ?_
    refine AllReadyIn.cons (o := ⟨some 64, _, _, _, _, _⟩) rfl (fun K hK => ?_) ?_
    ·go_simp
     refine hK _ _ ?_
     clear hK K
     refine wpAnyIn_ready (rs := [9]) (by kernel_rfl) (by simp) ?_
     refine AllReadyIn.cons (o := ⟨some 68, _, _, _, _, _⟩) rfl (fun K hK => ?_) ?_
     ·go_simp
      refine hK _ _ ?_
      clear hK K
      refine wpAnyIn_ready (rs := [10]) (by kernel_rfl) (by simp) ?_
      refine AllReadyIn.cons (o := ⟨some 69, _, _, _, _, _⟩) rfl (fun K hK => ?_) ?_
      ·go_simp
       refine ⟨trivial, fun h => absurd h (by decide), ?_⟩; gi_at_call 17; refine (CallsIn.inRound _ (callsIn_wide.2 (is3_e m3 hmz hd.out))).mono ?_; rintro e w3 ⟨rfl, hb3⟩
       (try dsimp only)
       refine hK _ _ ?_
       clear hK K
       refine wpAnyIn_ready (rs := [11]) (by kernel_rfl) (by simp) ?_
       refine AllReadyIn.cons (o := ⟨some 70, _, _, _, _, _⟩) rfl (fun K hK => ?_) ?_
       ·go_simp
        refine hK _ _ ?_
        clear hK K
        refine wpAnyIn_ready (rs := [12]) (by kernel_rfl) (by simp) ?_
        refine AllReadyIn.cons (o := ⟨some 71, _, _, _, _, _⟩) rfl (fun K hK => ?_) ?_
        ·go_simp
         refine hK _ _ ?_
         clear hK K
         refine wpAnyIn_done (by kernel_rfl) ?_ _
         exact ⟨rfl, ⟨_, _, _, _, _, _, _, _, _, _, _, _, rfl⟩, grow_step hb3 (Below.refl Wc.heap.size Wc).drew⟩
        exact AllReadyIn.nil
       exact AllReadyIn.nil
      exact AllReadyIn.nil
     exact AllReadyIn.nil
    refine AllReadyIn.cons (o := ⟨some 68, _, _, _, _, _⟩) rfl (fun K hK => ?_) ?_
    ·go_simp
     refine hK _ _ ?_
     clear hK K
     refine wpAnyIn_ready (rs := [5]) (by kernel_rfl) (by simp) ?_
     refine AllReadyIn.cons (o := ⟨some 64, _, _, _, _, _⟩) rfl (fun K hK => ?_) ?_
     ·go_simp
      refine hK _ _ ?_
      clear hK K
      refine wpAnyIn_ready (rs := [10]) (by kernel_rfl) (by simp) ?_
      refine AllReadyIn.cons (o := ⟨some 69, _, _, _, _, _⟩) rfl (fun K hK => ?_) ?_
      ·go_simp
       refine ⟨trivial, fun h => absurd h (by decide), ?_⟩; gi_at_call 17; refine (CallsIn.inRound _ (callsIn_wide.2 (is3_e m3 hmz hd.out))).mono ?_; rintro e w3 ⟨rfl, hb3⟩
       (try dsimp only)
       refine hK _ _ ?_
       clear hK K
       refine wpAnyIn_ready (rs := [11]) (by kernel_rfl) (by simp) ?_
       refine AllReadyIn.cons (o := ⟨some 70, _, _, _, _, _⟩) rfl (fun K hK => ?_) ?_
       ·go_simp
        refine hK _ _ ?_
        clear hK K
        refine wpAnyIn_ready (rs := [12]) (by kernel_rfl) (by simp) ?_
        refine AllReadyIn.cons (o := ⟨some 71, _, _, _, _, _⟩) rfl (fun K hK => ?_) ?_
        ·go_simp
         refine hK _ _ ?_
         clear hK K
         refine wpAnyIn_done (by kernel_rfl) ?_ _
         exact ⟨rfl, ⟨_, _, _, _, _, _, _, _, _, _, _, _, rfl⟩, grow_step hb3 (Below.refl Wc.heap.size Wc).drew⟩
        exact AllReadyIn.nil
       exact AllReadyIn.nil
      exact AllReadyIn.nil
     exact AllReadyIn.nil
    exact AllReadyIn.nil
   exact AllReadyIn.nil
  exact AllReadyIn.nil
 refine AllReadyIn.cons (o := ⟨some 66, _, _, _, _, _⟩) rfl (fun K hK => ?_) ?_
 ·go_simp
  refine hK _ _ ?_
  clear hK K
  refine wpAnyIn_ready (rs := [5, 6]) (by kernel_rfl) (by simp) ?_
  refine AllReadyIn.cons (o := ⟨some 64, _, _, _, _, _⟩) rfl (fun K hK => ?_) ?_
  ·go_simp
   refine hK _ _ ?_
   clear hK K
   refine wpAnyIn_ready (rs := [6]) (by kernel_rfl) (by simp) ?_
   refine AllReadyIn.cons (o := ⟨some 65, _, _, _, _, _⟩) rfl (fun K hK => ?_) ?_
   ·go_simp
    refine hK _ _ ?_
    clear hK K
    refine wpAnyIn_ready (rs := [8]) (by kernel_rfl) (by simp) ?_
    refine AllReadyIn.cons (o := ⟨some 67, _, _, _, _, _⟩) rfl (fun K hK => ?_) ?_
    ·go_simp
     refine hK _ _ ?_
     clear hK K
     refine wpAnyIn_ready (rs := [9]) (by kernel_rfl) (by simp) ?_
     refine AllReadyIn.cons (o := ⟨some 68, _, _, _, _, _⟩) rfl (fun K hK => ?_) ?_
     ·go_simp
      refine hK _ _ ?_
      clear hK K
      refine wpAnyIn_ready (rs := [10]) (by kernel_rfl) (by simp) ?_
      refine AllReadyIn.cons (o := ⟨some 69, _, _, _, _, _⟩) rfl (fun K hK => ?_) ?_
      ·go_simp
       refine ⟨trivial, fun h => absurd h (by decide), ?_⟩; gi_at_call 17; refine (CallsIn.inRound _ (callsIn_wide.2 (is3_e m3 hmz hd.out))).mono ?_; rintro e w3 ⟨rfl, hb3⟩
       (try dsimp only)
       refine hK _ _ ?_
       clear hK K
       refine wpAnyIn_ready (rs := [11]) (by kernel_rfl) (by simp) ?_
       refine AllReadyIn.cons (o := ⟨some 70, _, _, _, _, _⟩) rfl (fun K hK => ?_) ?_
       ·go_simp
        refine hK _ _ ?_
        clear hK K
        refine wpAnyIn_ready (rs := [12]) (by kernel_rfl) (by simp) ?_
        refine AllReadyIn.cons (o := ⟨some 71, _, _, _, _, _⟩) rfl (fun K hK => ?_) ?_
        ·go_simp
         refine hK _ _ ?_
         clear hK K
         refine wpAnyIn_done (by kernel_rfl) ?_ _
         exact ⟨rfl, ⟨_, _, _, _, _, _, _, _, _, _, _, _, rfl⟩, grow_step hb3 (Below.refl Wc.heap.size Wc).drew⟩
        exact AllReadyIn.nil
       exact AllReadyIn.nil
      exact AllReadyIn.nil
     exact AllReadyIn.nil
    exact AllReadyIn.nil
   exact AllReadyIn.nil
  refine AllReadyIn.cons (o := ⟨some 65, _, _, _, _, _⟩) rfl (fun K hK => ?_) ?_
  ·go_simp
   refine hK _ _ ?_
   clear hK K
   refine wpAnyIn_ready (rs := [5, 8]) (by kernel_rfl) (by simp) ?_
   refine AllReadyIn.cons (o := ⟨some 64, _, _, _, _, _⟩) rfl (fun K hK => ?_) ?_
   ·go_simp
    refine hK _ _ ?_
    clear hK K
    refine wpAnyIn_ready (rs := [8]) (by kernel_rfl) (by simp) ?_
    refine AllReadyIn.cons (o := ⟨some 67, _, _, _, _, _⟩) rfl (fun K hK => ?_) ?_
    ·go_simp
     refine hK _ _ ?_
     clear hK K
     refine wpAnyIn_ready (rs := [9]) (by kernel_rfl) (by simp) ?_
     refine AllReadyIn.cons (o := ⟨some 68, _, _, _, _, _⟩) rfl (fun K hK => ?_) ?_
     ·go_simp
      refine hK _ _ ?_
      clear hK K
      refine wpAnyIn_ready (rs := [10]) (by kernel_rfl) (by simp) ?_
      refine AllReadyIn.cons (o := ⟨some 69, _, _, _, _, _⟩) rfl (fun K hK => ?_) ?_
      ·go_simp
       refine ⟨trivial, fun h => absurd h (by decide), ?_⟩; gi_at_call 17; refine (CallsIn.inRound _ (callsIn_wide.2 (is3_e m3 hmz hd.out))).mono ?_; rintro e w3 ⟨rfl, hb3⟩
       (try dsimp only)
       refine hK _ _ ?_
       clear hK K
       refine wpAnyIn_ready (rs := [11]) (by kernel_rfl) (by simp) ?_
       refine AllReadyIn.cons (o := ⟨some 70, _, _, _, _, _⟩) rfl (fun K hK => ?_) ?_
       ·go_simp
        refine hK _ _ ?_
        clear hK K
        refine wpAnyIn_ready (rs := [12]) (by kernel_rfl) (by simp) ?_
        refine AllReadyIn.cons (o := ⟨some 71, _, _, _, _, _⟩) rfl (fun K hK => ?_) ?_
        ·go_simp
         refine hK _ _ ?_
         clear hK K
         refine wpAnyIn_done (by kernel_rfl) ?_ _
         exact ⟨rfl, ⟨_, _, _, _, _, _, _, _, _, _, _, _, rfl⟩, grow_step hb3 (Below.refl Wc.heap.size Wc).drew⟩
        exact AllReadyIn.nil
       exact AllReadyIn.nil
      exact AllReadyIn.nil
     exact AllReadyIn.nil
    exact AllReadyIn.nil
   refine AllReadyIn.cons (o := ⟨some 67, _, _, _, _, _⟩) rfl (fun K hK => ?_) ?_
   ·go_simp
    refine hK _ _ ?_
    clear hK K
    refine wpAnyIn_ready (rs := [5, 9]) (by kernel_rfl) (by simp) ?_
    refine AllReadyIn.cons (o := ⟨some 64, _, _, _, _, _⟩) rfl (fun K hK => ?_) ?_
    ·go_simp
     refine hK _ _ ?_
     clear hK K
     refine wpAnyIn_ready (rs := [9]) (by kernel_rfl) (by simp) ?_
     refine AllReadyIn.cons (o := ⟨some 68, _, _, _, _, _⟩) rfl (fun K hK => ?_) ?_
     ·go_simp
      refine hK _ _ ?_
      clear hK K
      refine wpAnyIn_ready (rs := [10]) (by kernel_rfl) (by simp) ?_
      refine AllReadyIn.cons (o := ⟨some 69, _, _, _, _, _⟩) rfl (fun K hK => ?_) ?_
      ·go_simp
       refine ⟨trivial, fun h => absurd h (by decide), ?_⟩; gi_at_call 17; refine (CallsIn.inRound _ (callsIn_wide.2 (is3_e m3 hmz hd.out))).mono ?_; rintro e w3 ⟨rfl, hb3⟩
       (try dsimp only)
       refine hK _ _ ?_
       clear hK K
       refine wpAnyIn_ready (rs := [11]) (by kernel_rfl) (by simp) ?_
       refine AllReadyIn.cons (o := ⟨some 70, _, _, _, _, _⟩) rfl (fun K hK => ?_) ?_
       ·go_simp
        refine hK _ _ ?_
        clear hK K
        refine wpAnyIn_ready (rs := [12]) (by kernel_rfl) (by simp) ?_
        refine AllReadyIn.cons (o := ⟨some 71, _, _, _, _, _⟩) rfl (fun K hK => ?_) ?_
        ·go_simp
         refine hK _ _ ?_
         clear hK K
         refine wpAnyIn_done (by kernel_rfl) ?_ _
         exact ⟨rfl, ⟨_, _, _, _, _, _, _, _, _, _, _, _, rfl⟩, grow_step hb3 (Below.refl Wc.heap.size Wc).drew⟩
        exact AllReadyIn.nil
       exact AllReadyIn.nil
      exact AllReadyIn.nil
     exact AllReadyIn.nil
    refine AllReadyIn.cons (o := ⟨some 68, _, _, _, _, _⟩) rfl (fun K hK => ?_) ?_
    ·go_simp
     refine hK _ _ ?_
     clear hK K
     refine wpAnyIn_ready (rs := [5]) (by kernel_rfl) (by simp) ?_
     refine AllReadyIn.cons (o := ⟨some 64, _, _, _, _, _⟩) rfl (fun K hK => ?_) ?_
     ·go_simp
      refine hK _ _ ?_
      clear hK K
      refine wpAnyIn_ready (rs := [10]) (by kernel_rfl) (by simp) ?_
      refine AllReadyIn.cons (o := ⟨some 69, _, _, _, _, _⟩) rfl (fun K hK => ?_) ?_
      ·go_simp
       refine ⟨trivial, fun h => absurd h (by decide), ?_⟩; gi_at_call 17; refine (CallsIn.inRound _ (callsIn_wide.2 (is3_e m3 hmz hd.out))).mono ?_; rintro e w3 ⟨rfl, hb3⟩
       (try dsimp only)
       refine hK _ _ ?_
       clear hK K
       refine wpAnyIn_ready (rs := [11]) (by kernel_rfl) (by simp) ?_
       refine AllReadyIn.cons (o := ⟨some 70, _, _, _, _, _⟩) rfl (fun K hK => ?_) ?_
       ·go_simp
        refine hK _ _ ?_
        clear hK K
        refine wpAnyIn_ready (rs := [12]) (by kernel_rfl) (by simp) ?_
        refine AllReadyIn.cons (o := ⟨some 71, _, _, _, _, _⟩) rfl (fun K hK => ?_) ?_
        ·go_simp
         refine hK _ _ ?_
         clear hK K
         refine wpAnyIn_done (by kernel_rfl) ?_ _
         exact ⟨rfl, ⟨_, _, _, _, _, _, _, _, _, _, _, _, rfl⟩, grow_step hb3 (Below.refl Wc.heap.size Wc).drew⟩
        exact AllReadyIn.nil
       exact AllReadyIn.nil
      exact AllReadyIn.nil
     exact AllReadyIn.nil
    exact AllReadyIn.nil
   exact AllReadyIn.nil
  exact AllReadyIn.nil
 exact AllReadyIn.nil

set_option maxRecDepth 100000 in
set_option maxHeartbeats 6400000 in
theorem lw_reg16 {l m b5 bj bt g kk n cap : Nat} {x y : TM} {w0 w5 Wc : World} {u0 u1 u2 u3 u4 u6 u7 u8 u9 u12 u13 u14 u15 u16 u17 u18 u19 u20 u21 u22 u23 u24 u25 u26 u27 u28 u29 u30 u31 u32 u33 u34 u35 u36 u37 u38 u39 u40 u41 u42 u43 u44 u45 u46 u47 u48 u49 u50 u51 u52 u53 u54 u55 u56 u57 u58 u59 u60 u61 u62 u63 u64 u65 u66 u67 u68 u69 u70 u71 u72 u73 u74 u75 u76 u77 u78 u79 u80 u81 u82 u83 u84 u85 u86 u87 u88 u89 u90 u91 u92 u93 u94 u95 u96 : Value}
  (h5c : Wc.cell? ⟨b5, 0, none⟩ = some (.slice (some ⟨g, 0, none⟩) n cap)) (x3c : Wc.cell? ⟨bj, 0, none⟩ = some (.int .i64 kk))
  (y0 : Wc.cell? ⟨bt, 0, none⟩ = some (.int .i64 x.d.kind)) (y1 : Wc.cell? ⟨bt, 1, none⟩ = some (.string x.d.text)) (y2 : Wc.cell? ⟨bt, 2, none⟩ = some (.bool false)) (y4 : Wc.cell? ⟨bt, 3, none⟩ = some (.slice x.ad x.len x.cap)) (y5 : Wc.cell? ⟨bt, 4, none⟩ = some (.int .i64 x.d.at'))
  (q0 : Wc.cell? ⟨g, kk * 5, none⟩ = some (.int .i64 y.d.kind)) (q1 : Wc.cell? ⟨g, kk * 5 + 1, none⟩ = some (.string y.d.text)) (q2 : Wc.cell? ⟨g, kk * 5 + 2, none⟩ = some (.bool false)) (q3 : Wc.cell? ⟨g, kk * 5 + 3, none⟩ = some (.slice y.ad y.len y.cap)) (q4 : Wc.cell? ⟨g, kk * 5 + 4, none⟩ = some (.int .i64 y.d.at'))
  (hk : kk < n) (_hc1 : n ≤ cap) (_hc2 : cap ≤ 9223372036854775807) (_hk4 : kk ≤ 4096) (m3 : Mg w0 Wc x) (hmz : Mg w5 Wc y) (hd : Hid (x.d = y.d)) :
  (lwReg16At Tryd.f4).wpIn (Fence.wide.inRound l) m Tryd.prog (fun e a' W' => e = .normal ∧ (∃ v59 v60 v61 v62 v63 v64 v65 v66 v67 v68 v69 v70 : Value, a' = ⟨#[u0, u1, u2, u3, u4, .pointer (some ⟨b5, 0, none⟩), u6, u7, u8, u9, .pointer (some ⟨bj, 0, none⟩), .pointer (some ⟨bt, 0, none⟩), u12, u13, u14, u15, u16, u17, u18, u19, u20, u21, u22, u23, u24, u25, u26, u27, u28, u29, u30, u31, u32, u33, u34, u35, u36, u37, u38, u39, u40, u41, u42, u43, u44, u45, u46, u47, u48, u49, u50, u51, u52, u53, u54, u55, u56, u57, u58, v59, v60, v61, v62, v63, v64, v65, v66, v67, v68, v69, v70, .bool false, u72, u73, u74, u75, u76, u77, u78, u79, u80, u81, u82, u83, u84, u85, u86, u87, u88, u89, u90, u91, u92, u93, u94, u95, u96], []⟩) ∧ Below Wc.heap.size Wc W') ⟨#[u0, u1, u2, u3, u4, .pointer (some ⟨b5, 0, none⟩), u6, u7, u8, u9, .pointer (some ⟨bj, 0, none⟩), .pointer (some ⟨bt, 0, none⟩), u12, u13, u14, u15, u16, u17, u18, u19, u20, u21, u22, u23, u24, u25, u26, u27, u28, u29, u30, u31, u32, u33, u34, u35, u36, u37, u38, u39, u40, u41, u42, u43, u44, u45, u46, u47, u48, u49, u50, u51, u52, u53, u54, u55, u56, u57, u58, u59, u60, u61, u62, u63, u64, u65, u66, u67, u68, u69, u70, u71, u72, u73, u74, u75, u76, u77, u78, u79, u80, u81, u82, u83, u84, u85, u86, u87, u88, u89, u90, u91, u92, u93, u94, u95, u96], []⟩ Wc := by
 have hkb : (kk : Int) < n := by omega
 have hke : decide (n ≤ kk) = false := by simp; omega
 conv in lwReg16At _ => whnf
 refine wpIn_region_any (by kernel_rfl) ?_
 show wpAnyIn _ _ _ _ _ _ 13 _ _ _
 refine wpAnyIn_ready (rs := [0, 1]) (by kernel_rfl) (by simp) ?_
 refine AllReadyIn.cons (o := ⟨some 59, _, _, _, _, _⟩) rfl (fun K hK => ?_) ?_
 ·go_simp
  refine hK _ _ ?_
  clear hK K
  refine wpAnyIn_ready (rs := [1]) (by kernel_rfl) (by simp) ?_
  refine AllReadyIn.cons (o := ⟨some 60, _, _, _, _, _⟩) rfl (fun K hK => ?_) ?_
  ·go_simp
   refine hK _ _ ?_
   clear hK K
   refine wpAnyIn_ready (rs := [2]) (by kernel_rfl) (by simp) ?_
   refine AllReadyIn.cons (o := ⟨some 61, _, _, _, _, _⟩) rfl (fun K hK => ?_) ?_
   ·go_simp
    refine hK _ _ ?_
    clear hK K
    refine wpAnyIn_ready (rs := [3]) (by kernel_rfl) (by simp) ?_
    refine AllReadyIn.cons (o := ⟨some 62, _, _, _, _, _⟩) rfl (fun K hK => ?_) ?_
    ·go_simp
     refine hK _ _ ?_
     clear hK K
     refine wpAnyIn_ready (rs := [4]) (by kernel_rfl) (by simp) ?_
     refine AllReadyIn.cons (o := ⟨some 63, _, _, _, _, _⟩) rfl (fun K hK => ?_) ?_
     ·go_simp
      refine hK _ _ ?_
      clear hK K
      (try rw [hke]); exact anyIn_listed16 (by kernel_rfl) (lw_reg16b h5c x3c y0 y1 y2 y4 y5 q0 q1 q2 q3 q4 hk _hc1 _hc2 _hk4 m3 hmz hd)
     exact AllReadyIn.nil
    exact AllReadyIn.nil
   exact AllReadyIn.nil
  exact AllReadyIn.nil
 refine AllReadyIn.cons (o := ⟨some 60, _, _, _, _, _⟩) rfl (fun K hK => ?_) ?_
 ·go_simp
  refine hK _ _ ?_
  clear hK K
  refine wpAnyIn_ready (rs := [0, 2]) (by kernel_rfl) (by simp) ?_
  refine AllReadyIn.cons (o := ⟨some 59, _, _, _, _, _⟩) rfl (fun K hK => ?_) ?_
  ·go_simp
   refine hK _ _ ?_
   clear hK K
   refine wpAnyIn_ready (rs := [2]) (by kernel_rfl) (by simp) ?_
   refine AllReadyIn.cons (o := ⟨some 61, _, _, _, _, _⟩) rfl (fun K hK => ?_) ?_
   ·go_simp
    refine hK _ _ ?_
    clear hK K
    refine wpAnyIn_ready (rs := [3]) (by kernel_rfl) (by simp) ?_
    refine AllReadyIn.cons (o := ⟨some 62, _, _, _, _, _⟩) rfl (fun K hK => ?_) ?_
    ·go_simp
     refine hK _ _ ?_
     clear hK K
     refine wpAnyIn_ready (rs := [4]) (by kernel_rfl) (by simp) ?_
     refine AllReadyIn.cons (o := ⟨some 63, _, _, _, _, _⟩) rfl (fun K hK => ?_) ?_
     ·go_simp
      refine hK _ _ ?_
      clear hK K
      (try rw [hke]); exact anyIn_listed16 (by kernel_rfl) (lw_reg16b h5c x3c y0 y1 y2 y4 y5 q0 q1 q2 q3 q4 hk _hc1 _hc2 _hk4 m3 hmz hd)
     exact AllReadyIn.nil
    exact AllReadyIn.nil
   exact AllReadyIn.nil
  refine AllReadyIn.cons (o := ⟨some 61, _, _, _, _, _⟩) rfl (fun K hK => ?_) ?_
  ·go_simp
   refine hK _ _ ?_
   clear hK K
   refine wpAnyIn_ready (rs := [0]) (by kernel_rfl) (by simp) ?_
   refine AllReadyIn.cons (o := ⟨some 59, _, _, _, _, _⟩) rfl (fun K hK => ?_) ?_
   ·go_simp
    refine hK _ _ ?_
    clear hK K
    refine wpAnyIn_ready (rs := [3]) (by kernel_rfl) (by simp) ?_
    refine AllReadyIn.cons (o := ⟨some 62, _, _, _, _, _⟩) rfl (fun K hK => ?_) ?_
    ·go_simp
     refine hK _ _ ?_
     clear hK K
     refine wpAnyIn_ready (rs := [4]) (by kernel_rfl) (by simp) ?_
     refine AllReadyIn.cons (o := ⟨some 63, _, _, _, _, _⟩) rfl (fun K hK => ?_) ?_
     ·go_simp
      refine hK _ _ ?_
      clear hK K
      (try rw [hke]); exact anyIn_listed16 (by kernel_rfl) (lw_reg16b h5c x3c y0 y1 y2 y4 y5 q0 q1 q2 q3 q4 hk _hc1 _hc2 _hk4 m3 hmz hd)
     exact AllReadyIn.nil
    exact AllReadyIn.nil
   exact AllReadyIn.nil
  exact AllReadyIn.nil
 exact AllReadyIn.nil
end Go.Proofs.YtcgdhbgjmapoeaaDoor

namespace Go.Proofs.YtcgdhbgjmapoeaaDoor
open Go.RowKit Go.Shelf
attribute [local go_sem] Oper.semAt_some

theorem below_put_from {w W : World} {b : Nat} (h : Below w.heap.size w W) (hb : w.heap.size ≤ b) (o' : Obj) : Below w.heap.size w (W.putObj b o') := h.trans ((Below.refl w.heap.size W).grown (grownBy_putObj' W b o') h.size (fun k e => by cases e; omega))
theorem JI.later {wJ : World} {r : Loop} {xs : List TM} {W W' : World} (h : JI wJ r xs W) (hb : Below W.heap.size W W') : JI wJ r xs W' := ⟨grow_step hb h.below, boxed_later h.box hb, block_later h.lp hb⟩
theorem JI.put {wJ : World} {r : Loop} {xs : List TM} {W : World} {b : Nat} (h : JI wJ r xs W) (hb : wJ.heap.size + 2 ≤ b) (o' : Obj) : JI wJ r xs (W.putObj b o') :=
 ⟨below_put_from h.below (by omega) _, (World.putObj_heap_other (by omega)).trans h.box, (World.putObj_heap_other (by omega)).trans h.lp⟩

/-- what the range holds -/
structure JO (wA : World) (s : ByteArray) (r : Loop) (xs : List TM) (W : World) : Prop where
 below : Below wA.heap.size wA W
 txt : W.heap[wA.heap.size]? = some (.cells #[.string s] 9 (0, 0))
 fbx : Boxed W (wA.heap.size + 1) 36 (.func (.func 24) #[] #[.pointer (some ⟨wA.heap.size, 0, none⟩)])
 kbx : Boxed W (wA.heap.size + 2) 3 (.int .i64 xs.length)
 dfr : W.heap[wA.heap.size + 3]? = some (.deferred (some []))
 lp : W.heap[wA.heap.size + 4]? = some (.loop r)
theorem JO.later {wA : World} {s : ByteArray} {r : Loop} {xs : List TM} {W W' : World} (h : JO wA s r xs W) (hb : Below W.heap.size W W') : JO wA s r xs W' := ⟨grow_step hb h.below, block_later h.txt hb, boxed_later h.fbx hb, boxed_later h.kbx hb, block_later h.dfr hb, block_later h.lp hb⟩
theorem JO.put {wA : World} {s : ByteArray} {r : Loop} {xs : List TM} {W : World} {b : Nat} (h : JO wA s r xs W) (hb : wA.heap.size + 5 ≤ b) (o' : Obj) : JO wA s r xs (W.putObj b o') :=
 ⟨below_put_from h.below (by omega) _, (World.putObj_heap_other (by omega)).trans h.txt, (World.putObj_heap_other (by omega)).trans h.fbx, (World.putObj_heap_other (by omega)).trans h.kbx, (World.putObj_heap_other (by omega)).trans h.dfr, (World.putObj_heap_other (by omega)).trans h.lp⟩
/-- the loop's own record is written anew -/
theorem JO.recd {wA : World} {s : ByteArray} {r : Loop} {xs : List TM} {W : World} (h : JO wA s r xs W) (r' : Loop) : JO wA s r' xs (W.putObj (wA.heap.size + 4) (.loop r')) :=
 ⟨below_put_from h.below (by omega) _, (World.putObj_heap_other (by omega)).trans h.txt, (World.putObj_heap_other (by omega)).trans h.fbx, (World.putObj_heap_other (by omega)).trans h.kbx, (World.putObj_heap_other (by omega)).trans h.dfr, World.putObj_heap_same (Array.getElem?_eq_some_iff.1 h.lp).1⟩
/-- one word more is counted -/
theorem JO.count {wA : World} {s : ByteArray} {r : Loop} {xs : List TM} {W : World} (h : JO wA s r xs W) (x : TM) : JO wA s r (xs ++ [x]) (W.setCell ⟨wA.heap.size + 2, 0, none⟩ (.int .i64 ((xs.length : Int) + 1))) := by
 have ho := Only.set (wA.heap.size + 2) 0 W (.int .i64 ((xs.length : Int) + 1))
 refine ⟨h.below.trans (ho.below (by omega)), (ho.block _ (by omega)).trans h.txt, (ho.block _ (by omega)).trans h.fbx, ?_, (ho.block _ (by omega)).trans h.dfr, (ho.block _ (by omega)).trans h.lp⟩
 rw [show ((xs ++ [x]).length : Int) = (xs.length : Int) + 1 by simp]
 exact h.kbx.set _

/-- what the range holds at its beginning -/
theorem jo_new {W' Wt : World} {s : ByteArray} (r : Loop) (bT : Below W'.heap.size W' Wt) (tT : Wt.heap[W'.heap.size]? = some (.cells #[.string s] 9 (0, 0))) (sT : Wt.heap.size = W'.heap.size + 1) :
  JO W' s r [] ((((Wt.alloc (.cells #[.func (.func 24) #[] #[.pointer (some ⟨W'.heap.size, 0, none⟩)]] 36)).alloc (.cells #[.int .i64 0] 3)).alloc (.deferred (some []))).alloc (.loop r)) := by
 have b2 := below_alloc Wt (.cells #[.func (.func 24) #[] #[.pointer (some ⟨W'.heap.size, 0, none⟩)]] 36)
 have n2 := heap_alloc_new Wt (.cells #[.func (.func 24) #[] #[.pointer (some ⟨W'.heap.size, 0, none⟩)]] 36)
 have s2 : (Wt.alloc (.cells #[.func (.func 24) #[] #[.pointer (some ⟨W'.heap.size, 0, none⟩)]] 36)).heap.size = W'.heap.size + 2 := by simp [sT]
 rw [sT] at n2
 generalize Wt.alloc (.cells #[.func (.func 24) #[] #[.pointer (some ⟨W'.heap.size, 0, none⟩)]] 36) = w2 at *
 have b3 := below_alloc w2 (.cells #[.int .i64 0] 3)
 have n3 := heap_alloc_new w2 (.cells #[.int .i64 0] 3)
 have s3 : (w2.alloc (.cells #[.int .i64 0] 3)).heap.size = W'.heap.size + 3 := by simp [s2]
 rw [s2] at n3
 generalize w2.alloc (.cells #[.int .i64 0] 3) = w3 at *
 have b4 := below_alloc w3 (.deferred (some []))
 have n4 := heap_alloc_new w3 (.deferred (some []))
 have s4 : (w3.alloc (.deferred (some []))).heap.size = W'.heap.size + 4 := by simp [s3]
 rw [s3] at n4
 generalize w3.alloc (.deferred (some [])) = w4 at *
 have b5 := below_alloc w4 (.loop r)
 have n5 := heap_alloc_new w4 (.loop r)
 rw [s4] at n5
 generalize w4.alloc (.loop r) = w5 at *
 have b45 := grow_step b5 b4
 have b35 := grow_step b45 b3
 have b25 := grow_step b35 b2
 exact ⟨grow_step b25 bT, block_later tT b25, block_later n2 b35, block_later n3 b45, block_later n4 b5, n5⟩

set_option maxRecDepth 100000 in
set_option maxHeartbeats 6400000 in
theorem lw_outer {s : ByteArray} {wA : World} {zs : List TM} {va : Option Addr} {vc b5 bz D m : Nat} {x0 : Int} {p0 : Nat} {r : Loop} {fn : FuncId} {u0 u1 u2 u3 u4 u6 u7 u8 u11 u12 u13 u14 u15 u16 u17 u18 u19 u20 u21 u22 u23 u24 u25 u26 u27 u28 u29 u30 u31 u32 u33 u34 u35 u36 u37 u38 u39 u40 u41 u42 u43 u44 u45 u46 u47 u48 u49 u50 u51 u52 u53 u54 u55 u56 u57 u58 u59 u60 u61 u62 u63 u64 u65 u66 u67 u68 u69 u70 u71 u72 u73 u74 u75 u76 u77 u78 u79 u80 u81 u82 u83 u84 u85 u86 u87 u88 u89 u90 u91 u92 u93 u94 u95 u96 : Value}
  (hr : lrec fn #[u0, u1, u2, u3, u4, .pointer (some ⟨b5, 0, none⟩), u6, u7, u8, .pointer (some ⟨wA.heap.size + 1, 0, none⟩), .pointer (some ⟨wA.heap.size + 2, 0, none⟩), u11, u12, u13, u14, u15, u16, u17, u18, u19, u20, u21, u22, u23, u24, u25, u26, u27, u28, u29, u30, u31, u32, u33, u34, u35, u36, u37, u38, u39, u40, u41, u42, u43, u44, u45, u46, u47, u48, u49, u50, u51, u52, u53, u54, u55, u56, u57, u58, u59, u60, u61, u62, u63, u64, u65, u66, u67, u68, u69, u70, u71, u72, u73, u74, u75, u76, u77, u78, u79, u80, u81, u82, u83, u84, u85, u86, u87, u88, u89, u90, u91, u92, u93, u94, u95, u96] (lwOutAt Tryd.f4).1 (lwOutAt Tryd.f4).2.1 (lwOutAt Tryd.f4).2.2 D .ready none = r)
  (hS : Sgn wA) (h5 : Boxed wA b5 22 (.slice va zs.length vc)) (hrow : wA.ownsRow bz 46 5 (.slice va zs.length vc) zs.length (zs.flatMap V5)) (hm : ∀ x ∈ zs, ∃ w0, Mg w0 wA x) (hD : Lxs s (zs.map TM.d) x0 p0)
  {pre : List TM} {x : TM} {W0 W1 : World} (hJ : JO wA s r pre W0) (hlen : pre.length < s.size) (hb : Below W0.heap.size W0 W1) (hM : Mg W0 W1 x) (hp : s.size ≤ 4096 ∧ Pfx s ((pre ++ [x]).map TM.d)) :
  YieldAt Fence.wide m Tryd.prog (wA.heap.size + 4) #[tokV x] W1 fun e W' => KW (wA.heap.size + 5) W1 W' ∧ ((e = .returned (.bool true) ∧ JO wA s r (pre ++ [x]) W' ∧ ∀ b, W0.heap.size ≤ b → b < W1.heap.size → W'.heap[b]? = W1.heap[b]?) ∨ (e = .returned (.bool false) ∧ JO wA s { r with state := .done, pending := some (.exit 0) } (pre ++ [x]) W')) := by
 obtain ⟨hp4, hpx⟩ := hp
 obtain ⟨ts, hts⟩ := pfx_of hS hp4 hD hpx
 have hzl : zs.length = pre.length + 1 + ts.length := by
  have := congrArg List.length hts
  simp at this
  omega
 have hk : pre.length < zs.length := by omega
 have hd : x.d = zs[pre.length].d := by
  have h1 : (zs.map TM.d)[pre.length]? = some x.d := by
   rw [hts, List.map_append, List.append_assoc, List.getElem?_append_right (by simp)]
   simp
  rw [List.getElem?_map, List.getElem?_eq_getElem hk] at h1
  simpa using h1.symm
 replace hd := hide hd
 have j1 := hJ.later hb
 refine round_at hr j1.lp rfl ?_
 rw [show (lwOutAt Tryd.f4).1 = #[58] from rfl]
 conv in (lwOutAt _).2.1 => whnf
 conv in (lwOutAt _).2.2 => whnf
 simp only [tokV]
 gi_wp2
 have ba : Below W1.heap.size W1 (W1.alloc (.cells #[.int .i64 x.d.kind, .string x.d.text, .bool false, .slice x.ad x.len x.cap, .int .i64 x.d.at'] 44)) := below_alloc _ _
 have y : TB (W1.alloc (.cells #[.int .i64 x.d.kind, .string x.d.text, .bool false, .slice x.ad x.len x.cap, .int .i64 x.d.at'] 44)) W1.heap.size (.int .i64 x.d.kind) (.string x.d.text) (.bool false) (.slice x.ad x.len x.cap) (.int .i64 x.d.at') := tb_new W1 _ _ _ _ _
 generalize (W1.alloc (.cells #[.int .i64 x.d.kind, .string x.d.text, .bool false, .slice x.ad x.len x.cap, .int .i64 x.d.at'] 44)) = Wa at *
 have j2 := j1.later ba
 refine ⟨j2.lp, ?_⟩
 have m2 : Mg wA Wa x := Mg.later ⟨hM.1.outer hJ.below, hM.2⟩ ba
 have j3 := j2.recd { r with state := .busy }
 have hkP : KT 55 Wa (Wa.putObj (wA.heap.size + 4) (.loop { r with state := .busy })) := fun k cs hc => (World.putObj_heap_other (fun e => by subst e; rw [j2.lp] at hc; cases hc)).trans hc
 have y3 : TB (Wa.putObj (wA.heap.size + 4) (.loop { r with state := .busy })) W1.heap.size (.int .i64 x.d.kind) (.string x.d.text) (.bool false) (.slice x.ad x.len x.cap) (.int .i64 x.d.at') := (World.putObj_heap_other (fun e => by rw [e] at y; exact absurd (y.symm.trans j2.lp) (by simp))).trans y
 have hmid : ∀ b, wA.heap.size + 5 ≤ b → b < W1.heap.size → (Wa.putObj (wA.heap.size + 4) (.loop { r with state := .busy })).heap[b]? = W1.heap[b]? := by
  intro b hb1 hb2
  rw [World.putObj_heap_other (by omega)]
  exact ba.block b hb2
 have hW0 : wA.heap.size + 5 ≤ W0.heap.size := (Array.getElem?_eq_some_iff.1 hJ.lp).1
 have m3 := mg_kt m2 j3.below hkP
 have hWc : W1.heap.size ≤ (Wa.putObj (wA.heap.size + 4) (.loop { r with state := .busy })).heap.size := by simpa [World.putObj] using ba.size
 generalize Wa.putObj (wA.heap.size + 4) (.loop { r with state := .busy }) = Wc at *
 obtain ⟨w5, hmz⟩ := hm zs[pre.length] (List.getElem_mem hk)
 replace hmz := hmz.later j3.below
 obtain ⟨g, cap, ev, hgb, hgl, hc1, hc2, hcell⟩ := own_cells hrow (by omega)
 simp only [Value.slice.injEq] at ev
 obtain ⟨rfl, -, rfl⟩ := ev
 have kc : ∀ j, j < 5 → Wc.cell? ⟨g, pre.length * 5 + j, none⟩ = (V5 zs[pre.length])[j]? := fun j hj => (j3.below.cell (p := ⟨g, pre.length * 5 + j, none⟩) hgl).trans (hcell pre.length j hk hj)
 have h5c := (boxed_later h5 j3.below).cell
 have x3c := j3.kbx.cell
 have y0 := y3.c0
 have y1 := y3.c1
 have y2 := y3.c2
 have y4 := y3.c3
 have y5 := y3.c4
 generalize zs[pre.length] = y at *
 have q0 : Wc.cell? ⟨g, pre.length * 5, none⟩ = some (.int .i64 y.d.kind) := kc 0 (by decide)
 have q1 : Wc.cell? ⟨g, pre.length * 5 + 1, none⟩ = some (.string y.d.text) := kc 1 (by decide)
 have q2 : Wc.cell? ⟨g, pre.length * 5 + 2, none⟩ = some (.bool false) := kc 2 (by decide)
 have q3 : Wc.cell? ⟨g, pre.length * 5 + 3, none⟩ = some (.slice y.ad y.len y.cap) := kc 3 (by decide)
 have q4 : Wc.cell? ⟨g, pre.length * 5 + 4, none⟩ = some (.int .i64 y.d.at') := kc 4 (by decide)
 clear kc hcell hts hpx hM m2 ba hb j1 j2
 replace hzl := hide hzl
 gi_wp2
 refine wpIn_mono (lw_reg16 h5c x3c y0 y1 y2 y4 y5 q0 q1 q2 q3 q4 hk hc1 hc2 (by omega) m3 hmz hd) ?_
 rintro e a' W' ⟨rfl, ⟨v59, v60, v61, v62, v63, v64, v65, v66, v67, v68, v69, v70, rfl⟩, hbW⟩
 have j4 := j3.later hbW
 have x4c := j4.kbx.cell
 have x4f := j4.kbx.frozen
 have hw1 : (IntKind.i64.wrap ((pre.length : Int) + 1)) = ((pre.length + 1 : Nat) : Int) := by rw [IntKind.wrap_i64]; omega
 clear h5c x3c y0 y1 y2 y4 y5 q0 q1 q2 q3 q4 m3 hmz
 have j5 := j4.count x
 have f4 := j4.fbx.cell
 have hmid5 : ∀ b, wA.heap.size + 5 ≤ b → b < W1.heap.size → (W'.setCell ⟨wA.heap.size + 2, 0, none⟩ (.int .i64 ((pre.length : Int) + 1))).heap[b]? = W1.heap[b]? := by
  intro b h1 h2
  rw [(Only.set (wA.heap.size + 2) 0 W' _).block b (by omega), hbW.block b (by omega)]
  exact hmid b h1 h2
 have hsz5 : W1.heap.size ≤ (W'.setCell ⟨wA.heap.size + 2, 0, none⟩ (.int .i64 ((pre.length : Int) + 1))).heap.size := by
  have := (Only.set (wA.heap.size + 2) 0 W' (.int .i64 ((pre.length : Int) + 1))).size
  have := hbW.size
  omega
 have f5 := (j5.fbx.alloc (.cells #[.int .i64 0] 3)).cell
 by_cases h3 : 3 < pre.length + 1
 ·have h3b : (3 : Int) < (pre.length : Int) + 1 := by omega
  clear f4 f5
  gi_wp2
  have hF : ∀ b, wA.heap.size + 5 ≤ b → b < W1.heap.size → ((W'.setCell ⟨wA.heap.size + 2, 0, none⟩ (.int .i64 ((pre.length : Int) + 1))).putObj (wA.heap.size + 4) (.loop { r with state := .done, pending := some (.exit 0) })).heap[b]? = W1.heap[b]? := by
   intro b h1 h2
   rw [World.putObj_heap_other (by omega)]
   exact hmid5 b h1 h2
  exact ⟨j5.lp, fun b o hB ho _ => (hF b hB (Array.getElem?_eq_some_iff.1 ho).1).trans ho, .inr ⟨rfl, j5.recd _⟩⟩
 ·have h3b : ¬ (3 : Int) < (pre.length : Int) + 1 := by omega
  gi_wp2
  have e5 : W'.heap.size = (W'.setCell ⟨wA.heap.size + 2, 0, none⟩ (.int .i64 ((pre.length : Int) + 1))).heap.size := (Only.set (wA.heap.size + 2) 0 W' (.int .i64 ((pre.length : Int) + 1))).size.symm
  rw [e5]
  clear e5
  generalize W'.setCell ⟨wA.heap.size + 2, 0, none⟩ (.int .i64 ((pre.length : Int) + 1)) = W5 at *
  clear hw1 x4c x4f f4 f5 j4 j3 hmid hbW
  have b5' := j5.below
  refine range_enter_in (l0 := wA.heap.size + 4) (r0 := { r with state := .busy }) (j5.later (below_alloc W5 _)).lp rfl (enters_of Tryd.func24 (by kernel_rfl) rfl) (fun fn' ri hri => ?_)
  have hsz : (W5.alloc (.cells #[.int .i64 0] 3)).heap.size = W5.heap.size + 1 := by simp
  have hszW : ((W5.alloc (.cells #[.int .i64 0] 3)).alloc (.loop ri)).heap.size = W5.heap.size + 2 := by simp
  have hbJ : Below W5.heap.size W5 ((W5.alloc (.cells #[.int .i64 0] 3)).alloc (.loop ri)) := below_alloc' (below_alloc _ _) _
  have h0 : JI W5 ri [] ((W5.alloc (.cells #[.int .i64 0] 3)).alloc (.loop ri)) := by
   refine ⟨hbJ, (Boxed.new W5 3 (.int .i64 0)).alloc _, ?_⟩
   have := heap_alloc_new (W5.alloc (.cells #[.int .i64 0] 3)) (.loop ri)
   rw [hsz] at this
   exact this
  have ht0 := cell_of_row _ _ 0 _ _ (0, 0) (j5.later hbJ).txt
  rw [hsz]
  generalize (W5.alloc (.cells #[.int .i64 0] 3)).alloc (.loop ri) = WW at *
  have hl5 : wA.heap.size + 5 ≤ W5.heap.size := (Array.getElem?_eq_some_iff.1 j5.lp).1
  refine (words1_any s wA.heap.size (W5.heap.size + 1) _ WW (fun xs W => JI W5 ri xs W) (fun _ _ => False) (fun xs W h => (hS.below j5.below).below h.below) (fun xs W W' h hb => h.later hb) (fun xs W b o o' hb _ _ h => h.put (by omega) o') (fun xs W b o o' _ _ _ h => h) ?_ ht0 (by omega) h0).mono ?_
  ·intro m' pre' x' V0 V1 hj hl hb' hM' hp'
   rw [hszW]
   refine (lw_inner hri (hS.below j5.below) (boxed_later h5 j5.below) (owns_later hrow j5.below) (fun x hx => (hm x hx).imp fun _ k => k.later j5.below) hD hj hl hb' hM' hp').mono ?_
   rintro e W ⟨h1, h2⟩
   exact ⟨h1, .inl h2⟩
  ·rintro e W6 ⟨hret, ⟨xs, x', p', hx', hj⟩ | ⟨_, hF, _⟩⟩
   ·refine ⟨hret, hj.lp, ?_⟩
    have hxl : xs.length = zs.length := by
     have := congrArg List.length (lxs_unique hx' hD).1
     simpa using this
    have j6 := (j5.later hj.below).put (b := W5.heap.size + 1) (by omega) (.loop { ri with state := .exhausted })
    have xb : Boxed (W6.putObj (W5.heap.size + 1) (.loop { ri with state := .exhausted })) W5.heap.size 3 (.int .i64 zs.length) := by
     rw [← hxl]
     exact (World.putObj_heap_other (by omega)).trans hj.box
    have hmid7 : ∀ b, wA.heap.size + 5 ≤ b → b < W1.heap.size → (W6.putObj (W5.heap.size + 1) (.loop { ri with state := .exhausted })).heap[b]? = W1.heap[b]? := by
     intro b h1 h2
     rw [World.putObj_heap_other (by omega), hj.below.block b (by omega)]
     exact hmid5 b h1 h2
    generalize W6.putObj (W5.heap.size + 1) (.loop { ri with state := .exhausted }) = W7 at *
    have xc := xb.cell
    have c5 := (boxed_later h5 j6.below).cell
    clear hj hx' hxl h0 ht0 hbJ
    gi_wp2
    have j7 := j6.recd { r with state := .ready, pending := none }
    have hF : ∀ b, wA.heap.size + 5 ≤ b → b < W1.heap.size → (W7.putObj (wA.heap.size + 4) (.loop { r with state := .ready, pending := none })).heap[b]? = W1.heap[b]? := by
     intro b h1 h2
     rw [World.putObj_heap_other (by omega)]
     exact hmid7 b h1 h2
    rw [lrec_again hr] at j7 hF
    refine ⟨j6.lp, ?_⟩
    rw [lrec_again hr]
    exact ⟨fun b o hB ho _ => (hF b hB (Array.getElem?_eq_some_iff.1 ho).1).trans ho, .inl ⟨rfl, j7, fun b h1 h2 => hF b (by omega) h2⟩⟩
   ·exact hF.elim
end Go.Proofs.YtcgdhbgjmapoeaaDoor
