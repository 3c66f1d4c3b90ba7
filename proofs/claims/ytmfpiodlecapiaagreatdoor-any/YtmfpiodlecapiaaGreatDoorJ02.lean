import Derived.Test.YtmfpiodlecapiaaGreatDoorRows
import Derived.Test.YtmfpiodlecapiaaGreatDoorJ01
import Derived.Laws.BitsAllLaws
namespace Go.Proofs.YtmfpiodlecapiaaGreatDoor
open Go.RowKit
theorem Tryz.infoInt:(Tryz.prog.info? 3).map (fun i=>(i.zero,i.size,i.bytes))=some (some (.int .i64 0),1,8):=by kernel_rfl
theorem iQ(n l m:Int)(w:World):
  Calls Tryz.prog 114 #[.int .i64 n,.int .i64 l,.int .i64 m] w fun e w'=>e= .returned (.bool (decide (l<=n)&&decide (n<=m)))/\w'=w:=by
 by_cases h:l<=n
 ·go_enter Tryz.func114,Tryz.ntmps114;go_wp2;go_ret;exact⟨by simp[h],rfl⟩
 ·go_enter Tryz.func114,Tryz.ntmps114;go_wp2;go_ret
  exact⟨by have:¬(l<=n):=by omega
           simp[this],rfl⟩
theorem kT(n:Int)(w:World):
  Calls Tryz.prog 62 #[.int .i64 n] w fun e w'=>e= .returned (.bool (decide (0<=n)&&decide (n<=2000)))/\w'=w:=by
 go_enter Tryz.func62,Tryz.ntmps62;go_wp2_with (go_at_call 114;refine(iQ _ _ _ _).mono ?_;rintro _ _ ⟨rfl,rfl⟩)
 go_ret;exact⟨rfl,rfl⟩
theorem eB(a b:Nat)(ha:a<4294967296)(hb:b<4294967296)(hb0:0<b)(w:World):
  Calls Tryz.prog 64 #[.int .i64 a,.int .i64 b] w fun e w'=>e= .returned (.int .i64 (((a+b-1)/b:Nat):Int))/\w'=w:=by
 have e:(((a+b-1)/b:Nat):Int)=((a:Int)+(b:Int)-1)/(b:Int):=by
  rw[Int.natCast_ediv];congr 1;omega
 rw[e];clear e;go_enter Tryz.func64,Tryz.ntmps64;go_wp2;go_ret;exact⟨rfl,rfl⟩
def nU(s m p:Int):Prop:=1<=s/\s<=16/\1<=m/\m<=20/\0<=p/\p<=20
def rV(s m p:Int):Bool:=decide (1<=s/\s<=16/\1<=m/\m<=20/\0<=p/\p<=20)
theorem qJ{s m p:Int}(h:nU s m p):rV s m p=true:=decide_eq_true h
theorem nV{s m p:Int}(h:¬nU s m p):rV s m p=false:=decide_eq_false h
theorem oz(s m p:Int)(w:World):
  Calls Tryz.prog 63 #[.agg #[.int .i64 s,.int .i64 m,.int .i64 p]] w fun e w'=>e= .returned (.bool (rV s m p))/\Below w.heap.size w w':=by
 by_cases h1:1<=s/\s<=16
 ·by_cases h2:1<=m/\m<=20
  ·by_cases h3:0<=p/\p<=20
   ·have e1:(decide (1<=s)&&decide (s<=16))=true:=by simp;omega
    have e2:(decide (1<=m)&&decide (m<=20))=true:=by simp;omega
    have e3:(decide (0<=p)&&decide (p<=20))=true:=by simp;omega
    have e:rV s m p=true:=qJ (by unfold nU;omega);rw[e];clear e h1 h2 h3;go_enter Tryz.func63,Tryz.ntmps63;go_wp2_with (go_at_call 114;refine(iQ _ _ _ _).mono ?_;rintro _ _ ⟨rfl,rfl⟩;simp only[e1,e2,e3])
    go_ret;exact⟨rfl,(Below.refl _ _).alloc (Nat.le_refl _) _⟩
   ·have e1:(decide (1<=s)&&decide (s<=16))=true:=by simp;omega
    have e2:(decide (1<=m)&&decide (m<=20))=true:=by simp;omega
    have e3:(decide (0<=p)&&decide (p<=20))=false:=by simp;omega
    have e:rV s m p=false:=nV (by unfold nU;omega);rw[e];clear e h1 h2 h3;go_enter Tryz.func63,Tryz.ntmps63;go_wp2_with (go_at_call 114;refine(iQ _ _ _ _).mono ?_;rintro _ _ ⟨rfl,rfl⟩;simp only[e1,e2,e3])
    go_ret;exact⟨rfl,(Below.refl _ _).alloc (Nat.le_refl _) _⟩
  ·have e1:(decide (1<=s)&&decide (s<=16))=true:=by simp;omega
   have e2:(decide (1<=m)&&decide (m<=20))=false:=by simp;omega
   have e:rV s m p=false:=nV (by unfold nU;omega);rw[e];clear e h1 h2;go_enter Tryz.func63,Tryz.ntmps63;go_wp2_with (go_at_call 114;refine(iQ _ _ _ _).mono ?_;rintro _ _ ⟨rfl,rfl⟩;simp only[e1,e2])
   go_ret;exact⟨rfl,(Below.refl _ _).alloc (Nat.le_refl _) _⟩
 ·have e1:(decide (1<=s)&&decide (s<=16))=false:=by simp;omega
  have e:rV s m p=false:=nV (by unfold nU;omega);rw[e];clear e h1;go_enter Tryz.func63,Tryz.ntmps63;go_wp2_with (go_at_call 114;refine(iQ _ _ _ _).mono ?_;rintro _ _ ⟨rfl,rfl⟩;simp only[e1])
  go_ret;exact⟨rfl,(Below.refl _ _).alloc (Nat.le_refl _) _⟩
theorem xC(n z:Nat)(hn:n<=4096)(hz:z<=4096)(hz0:0<z)(w:World):
  Calls Tryz.prog 65 #[.int .i64 n,.int .i64 z] w fun e w'=>e= .returned (.slice (some ⟨w.heap.size,0,none⟩) z z)/\Below w.heap.size w w'/\aB w' w.heap.size 3 (bW (Cut.eX n z)):=by
 obtain⟨i0,hi,hz0',hz1,hz2⟩:=info_parts Tryz.infoInt;go_enter Tryz.func65,Tryz.ntmps65;go_wp2_with (at_make;refine wpList_make_row _ rfl _ _ 33 rfl 3 i0 (.int .i64 0) Tryz.underlying33 hi hz0' hz1 rfl .i64 .i64 z rfl rfl (by rw[hz2];omega) (by omega) ?_)
 have hb0:Below w.heap.size w (w.alloc (.cells (madeCells #[.int .i64 0] z) 3)):=(Below.refl _ _).alloc (Nat.le_refl _) _;have hr0:aB (w.alloc (.cells (madeCells #[.int .i64 0] z) 3)) w.heap.size 3 (fill (bW (Cut.eX n z)) (.int .i64 0) 0):=by
  rw[uj,dG,Cut.iN];exact gF _ _ _ _
 go_loopw [11] (fun i wr=>∃k:Nat,k<=z/\i= .int .i64 k/\Below w.heap.size w wr/\aB wr w.heap.size 3 (fill (bW (Cut.eX n z)) (.int .i64 0) k))
  (fun i _=>z-(intOf i).toNat)
 case atStart=>exact⟨0,by omega,rfl,hb0,hr0⟩
 case round=>
  obtain⟨k,hk,rfl,hb,hr⟩:=hrel;clear hb0 hr0;by_cases hkz:k<z
  ·have hlen:k<(bW (Cut.eX n z)).length:=by rw[dG,Cut.iN];exact hkz
   have hc:=hr.cell k _ (V3 _ _ _ hlen);have hf:=hr.frozen k;have hv:(bW (Cut.eX n z))[k]? =some (.int .i64 ((n/z+if k<n%z then 1 else 0:Nat):Int)):=by
    simp[bW,Cut.eX,hkz]
   have eq0:(n:Int)/(z:Int)=((n/z:Nat):Int):=by simp
   have hq0:0<=(n:Int)/(z:Int):=by rw[eq0];exact Int.natCast_nonneg _
   have hq:(n:Int)/(z:Int)<=4096:=by
    have:n/z<=n:=Nat.div_le_self _ _;rw[eq0];omega
   have hE:=hide eq0;clear eq0;by_cases hm:k<n%z
   ·have hm':(k:Int)<(n:Int)%(z:Int):=by omega
    have hR:=hide hr;have hB:=hide hb;have hV:=hide hv
    clear hr hb hv;go_wp2;go_roundw
    case rel=>
     refine⟨k+1,by omega,by go_num,(hB.out.setCell (Nat.le_refl _) _).setCell (Nat.le_refl _) _,?_⟩;have:=(hR.out.set k (.int .i64 ((n:Int)/(z:Int)))).set k (.int .i64 ((n:Int)/(z:Int)+1));rw[List.set_set,Gh]at this
     ·exact this
     ·rw[hV.out,if_pos hm,hE.out];rfl
    case measure=>simp[intOf];omega
   ·have hm':¬(k:Int)<(n:Int)%(z:Int):=by omega
    have hR:=hide hr;have hB:=hide hb;have hV:=hide hv
    clear hr hb hv;go_wp2;go_roundw
    case rel=>
     refine⟨k+1,by omega,by go_num,(hB.out.setCell (Nat.le_refl _) _),?_⟩;have:=(hR.out.set k (.int .i64 ((n:Int)/(z:Int))));rw[Gh]at this
     ·exact this
     ·rw[hV.out,if_neg hm,hE.out];rfl
    case measure=>simp[intOf];omega
  ·have e:k=z:=by omega
   subst e;have hr':aB wr w.heap.size 3 (bW (Cut.eX n k)):=by
    have h2:=yJ (bW (Cut.eX n k)) (Value.int .i64 0);rw[dG,Cut.iN]at h2;rw[h2]at hr;exact hr
   have hR:=hide hr';have hB:=hide hb
   clear hr hr' hb;go_wp2;go_ret;exact⟨rfl,hB.out,hR.out⟩
theorem vQ(len s m p q Z:Nat)(hl:len<=2000)(h1:1<=s)(h2:s<=16)(h3:1<=m)(h4:m<=20)(h5:p<=20)
  (hq:1<q)(hq2:q<=2000)(hZ1:1<=Z)(_hZ2:Z<=q)(d1:(len+s-1)/s=q)(d2:(q+m-1)/m=Z)(w:World):
  (Z<=256->Calls Tryz.prog 29 #[.int .i64 len,.agg #[.int .i64 s,.int .i64 m,.int .i64 p]] w fun e w'=>
   ∃g,w.heap.size<=g/\e= .returned (.tuple #[.slice (some ⟨g,0,none⟩) Z Z,.bool true])/\Below w.heap.size w w'/\aB w' g 3 (bW (Cut.eX q Z)))/\
  (¬Z<=256->Calls Tryz.prog 29 #[.int .i64 len,.agg #[.int .i64 s,.int .i64 m,.int .i64 p]] w fun e w'=>
   e= .returned (.tuple #[.slice none 0 0,.bool false])/\Below w.heap.size w w'):=by
 have hb0:=hide ((Below.refl w.heap.size w).alloc (Nat.le_refl _) (.cells #[.int .i64 s,.int .i64 m,.int .i64 p] 35));have e1:(decide ((0:Int)<=(len:Int))&&decide ((len:Int)<=2000))=true:=by simp;omega
 have e2:rV s m p=true:=qJ (by unfold nU;omega);constructor
 ·intro hc;go_enter Tryz.func29,Tryz.ntmps29;go_wp2_with first|(go_at_call 62;refine(kT _ _).mono ?_;rintro _ _ ⟨rfl,rfl⟩;simp only[e1])|(go_at_call 63;refine(oz _ _ _ _).mono ?_;rintro _ w1 ⟨rfl,hb1⟩;have c0:=cell_later hb1 (sI w _ _ _ _);have c1:=cell_later hb1 (wJ w _ _ _ _);replace hb1:=hide hb1;simp only[e2])
  refine(eB _ _ (by omega) (by omega) (by omega) _).mono ?_;rintro _ _ ⟨rfl,rfl⟩;simp only[d1];go_wp2_with first|(go_at_call 64;refine(eB _ _ (by omega) (by omega) (by omega) _).mono ?_;rintro _ _ ⟨rfl,rfl⟩;simp only[d2])|(go_at_call 65;refine(xC _ _ (by omega) (by omega) (by omega) _).mono ?_;rintro _ w2 ⟨rfl,hb2,hr2⟩;replace hb2:=hide hb2;replace hr2:=hide hr2)
  go_ret2
  exact⟨_,Nat.le_trans hb0.out.size hb1.out.size,rfl,(hb0.out.trans (hb1.out.mono (by simp))).trans (hb2.out.mono (Nat.le_trans hb0.out.size hb1.out.size)),hr2.out⟩
 ·intro hc;go_enter Tryz.func29,Tryz.ntmps29;go_wp2_with first|(go_at_call 62;refine(kT _ _).mono ?_;rintro _ _ ⟨rfl,rfl⟩;simp only[e1])|(go_at_call 63;refine(oz _ _ _ _).mono ?_;rintro _ w1 ⟨rfl,hb1⟩;have c0:=cell_later hb1 (sI w _ _ _ _);have c1:=cell_later hb1 (wJ w _ _ _ _);replace hb1:=hide hb1;simp only[e2])
  refine(eB _ _ (by omega) (by omega) (by omega) _).mono ?_;rintro _ _ ⟨rfl,rfl⟩;simp only[d1];go_wp2_with (go_at_call 64;refine(eB _ _ (by omega) (by omega) (by omega) _).mono ?_;rintro _ _ ⟨rfl,rfl⟩;simp only[d2])
  go_ret2
  exact⟨rfl,hb0.out.trans (hb1.out.mono (by simp))⟩
theorem vP(len s m p q Z:Nat)(hl:len<=2000)(h1:1<=s)(h2:s<=16)(h3:1<=m)(h4:m<=20)(h5:p<=20)
  (hq:q<=1)(hZ1:1<=Z)(hZ2:Z<=1)(d1:(len+s-1)/s=q)(d2:(1+m-1)/m=Z)(w:World):
  (Z<=256->Calls Tryz.prog 29 #[.int .i64 len,.agg #[.int .i64 s,.int .i64 m,.int .i64 p]] w fun e w'=>
   ∃g,w.heap.size<=g/\e= .returned (.tuple #[.slice (some ⟨g,0,none⟩) Z Z,.bool true])/\Below w.heap.size w w'/\aB w' g 3 (bW (Cut.eX 1 Z)))/\
  (¬Z<=256->Calls Tryz.prog 29 #[.int .i64 len,.agg #[.int .i64 s,.int .i64 m,.int .i64 p]] w fun e w'=>
   e= .returned (.tuple #[.slice none 0 0,.bool false])/\Below w.heap.size w w'):=by
 have hb0:=hide ((Below.refl w.heap.size w).alloc (Nat.le_refl _) (.cells #[.int .i64 s,.int .i64 m,.int .i64 p] 35));have e1:(decide ((0:Int)<=(len:Int))&&decide ((len:Int)<=2000))=true:=by simp;omega
 have e2:rV s m p=true:=qJ (by unfold nU;omega);have D1:Hid (∀w,Calls Tryz.prog 64 #[.int .i64 1,.int .i64 m] w fun e w'=>e= .returned (.int .i64 (Z:Int))/\w'=w):=by
  intro w;have:=eB 1 m (by omega) (by omega) (by omega) w;rw[d2]at this;exact this
 constructor
 ·intro hc;go_enter Tryz.func29,Tryz.ntmps29;go_wp2_with first|(go_at_call 62;refine(kT _ _).mono ?_;rintro _ _ ⟨rfl,rfl⟩;simp only[e1])|(go_at_call 63;refine(oz _ _ _ _).mono ?_;rintro _ w1 ⟨rfl,hb1⟩;have c0:=cell_later hb1 (sI w _ _ _ _);have c1:=cell_later hb1 (wJ w _ _ _ _);replace hb1:=hide hb1;simp only[e2])
  refine(eB _ _ (by omega) (by omega) (by omega) _).mono ?_;rintro _ _ ⟨rfl,rfl⟩;simp only[d1];go_wp2_with first|(go_at_call 64;refine(D1.out _).mono ?_;rintro _ _ ⟨rfl,rfl⟩)|(go_at_call 65;refine(xC 1 _ (by omega) (by omega) (by omega) _).mono ?_;rintro _ w2 ⟨rfl,hb2,hr2⟩;replace hb2:=hide hb2;replace hr2:=hide hr2)
  go_ret2
  exact⟨_,Nat.le_trans hb0.out.size hb1.out.size,rfl,(hb0.out.trans (hb1.out.mono (by simp))).trans (hb2.out.mono (Nat.le_trans hb0.out.size hb1.out.size)),hr2.out⟩
 ·intro hc;omega
theorem dL(len s m p:Nat)(hl:len<=2000)(h1:1<=s)(h2:s<=16)(h3:1<=m)(h4:m<=20)(h5:p<=20)(w:World):
  (Cut.blocks (Cut.pieces len s) m<=256->Calls Tryz.prog 29 #[.int .i64 len,.agg #[.int .i64 s,.int .i64 m,.int .i64 p]] w fun e w'=>
   ∃g,w.heap.size<=g/\e= .returned (.tuple #[.slice (some ⟨g,0,none⟩) (Cut.blocks (Cut.pieces len s) m) (Cut.blocks (Cut.pieces len s) m),.bool true])/\Below w.heap.size w w'/\aB w' g 3 (bW (Cut.sizes len s m)))/\
  (¬Cut.blocks (Cut.pieces len s) m<=256->Calls Tryz.prog 29 #[.int .i64 len,.agg #[.int .i64 s,.int .i64 m,.int .i64 p]] w fun e w'=>
   e= .returned (.tuple #[.slice none 0 0,.bool false])/\Below w.heap.size w w'):=by
 have hN1:=Cut.gD len s;have yD:=Cut.AJ hl h1;have hZ1:=Cut.j_ hN1 h3;have hZ2:=Cut.Br hN1 h3;unfold Cut.sizes;by_cases hq:1<(len+s-1)/s
 ·have e:Cut.pieces len s=(len+s-1)/s:=by unfold Cut.pieces;omega
  rw[e]at yD hZ1 hZ2⊢;exact vQ len s m p _ _ hl h1 h2 h3 h4 h5 hq yD hZ1 hZ2 rfl rfl w
 ·have e:Cut.pieces len s=1:=by unfold Cut.pieces;omega
  rw[e]at yD hZ1 hZ2⊢;exact vP len s m p _ _ hl h1 h2 h3 h4 h5 (by omega) hZ1 hZ2 rfl rfl w
theorem Dj(len s m p:Nat)(hl:len<=2000)(h1:1<=s)(h2:s<=16)(h3:1<=m)(h4:m<=20)(h5:p<=20)(hc:¬Cut.blocks (Cut.pieces len s) m<=256)(w:World):
  Calls Tryz.prog 15 #[.int .i64 len,.agg #[.int .i64 s,.int .i64 m,.int .i64 p]] w fun e w'=>e= .returned (.tuple #[.slice none 0 0,.int .i64 1])/\Below w.heap.size w w':=by
 have hb0:=hide ((Below.refl w.heap.size w).alloc (Nat.le_refl _) (.cells #[.int .i64 s,.int .i64 m,.int .i64 p] 35));have C:=hide (fun w=>(dL len s m p hl h1 h2 h3 h4 h5 w).2 hc);clear hc;go_enter Tryz.func15,Tryz.ntmps15;go_wp2_with (go_at_call 29;refine(C.out _).mono ?_;rintro _ w1 ⟨rfl,hb1⟩;replace hb1:=hide hb1)
 go_ret2
 exact⟨rfl,hb0.out.trans (hb1.out.mono (by simp))⟩
theorem Dh(len s m p:Nat)(hl:len<=2000)(h1:1<=s)(h2:s<=16)(h3:1<=m)(h4:m<=20)(h5:p<=20)(hc:Cut.blocks (Cut.pieces len s) m<=256)(w:World):
  Calls Tryz.prog 15 #[.int .i64 len,.agg #[.int .i64 s,.int .i64 m,.int .i64 p]] w fun e w'=>
   ∃g,w.heap.size<=g/\e= .returned (.tuple #[.slice (some ⟨g,0,none⟩) (Cut.blocks (Cut.pieces len s) m) (Cut.blocks (Cut.pieces len s) m),.int .i64 0])/\Below w.heap.size w w'/\aB w' g 3 (bW (Cut.sizes len s m)):=by
 have hb0:=hide ((Below.refl w.heap.size w).alloc (Nat.le_refl _) (.cells #[.int .i64 s,.int .i64 m,.int .i64 p] 35));have C:=hide (fun w=>(dL len s m p hl h1 h2 h3 h4 h5 w).1 hc);clear hc;revert C;generalize Cut.blocks (Cut.pieces len s) m=Z;intro C;go_enter Tryz.func15,Tryz.ntmps15;go_wp2_with (go_at_call 29;refine(C.out _).mono ?_;rintro _ w1 ⟨g,hg,rfl,hb1,hr1⟩;replace hb1:=hide hb1;replace hr1:=hide hr1)
 go_ret2
 exact⟨g,by simp at hg;omega,rfl,hb0.out.trans (hb1.out.mono (by simp)),hr1.out⟩
open Go.RowKit Go.Deep
theorem bM.setCell{w:World}{e t:TypeId}{v:Value}{xs L:List Value}{b i:Nat}(h:bM w e v xs)(hb:aB w b t L)(ht:t≠e)(u:Value):bM (w.setCell ⟨b,i,none⟩ u) e v xs:=
 h.of_block (fun g hg=>blk_setCell_other _ _ _ _ (fun e'=>h.kG hb ht (by rw[hg];exact congrArg some e')))
end Go.Proofs.YtmfpiodlecapiaaGreatDoor
namespace Go.Proofs.YtmfpiodlecapiaaGreatDoor.Gf
def Dk(a:Nat):Nat:=bif Nat.ble 256 (2*a)then Nat.xor (2*a) 285 else 2*a
def fJ:Nat->Nat->Nat->Nat->Nat
 |0,_,_,p=>p
 |n+1,a,b,p=>fJ n (Dk a) (b/2) (bif Nat.beq (b%2) 1 then Nat.xor p a else p)
def mul(a b:Nat):Nat:=fJ 8 a b 0
def E:Nat:=0x8e47add86c361b83cfe9fa7db0582c160b8bcbebfbf3f7f5f47a3d90482412098a45ac562b9bc3eff9f279b259a251a653a7dde070381c0e078dc86432198241ae57a5dc6e3795c46231964babdbe3fff1f67bb3d7e5fc7e3f91c663bfd1e673b7d5e472399249aa55a452299a4da8542a158442219e4fa9da6db85c2e1785cc663397c5ec763b93c7edf87c3e1f81ce67bdd068341a0d884422118643afd9e271b65ba3dfe1fe7fb1d66bbbd3e7fdf0783c1e0f89ca65bc5e2f99c261be5fa1de6fb9d269ba5da05028140a058c46239fc1ee77b5d46a35944a259c4e279dc06030180c06038fc9ea75b45a2d984c261387cde8743a1d8040201008040201
def L:Nat:=0xaf5850a8eaf4d674e8ade7e6e9d5ae4fd72c757aeb16f50b51a0a99cb05f59cb5a3eccbbb18660fbaa559d29523ba16cf66f0c7fec4917c476a47bb7d8432d1fa2416d4753393c849e5d2a14abd356f261befcdcb2978790cdcfbc955bd13f372e892023d99244117cb4b8267799a5e318fec531edde4a670d63808cf7c0700757a7f373ace5d44e2b79150a9f9b5eca3dba85fa54283a6b6e7e48c3a3b6421e404638835c13d2f1bddb968fce94d03688229110b32598e2fd30dd66628bbf06a672e44d78099ac9b9f9276a7dc2b51d458212f0da8e9335210f24e12f658a05714c08c8f869c11c81ef8d340ee064044bc7681bee33df03c61a320219010000
def ex(i:Nat):Nat:=(E >>> (8*i))%256
def lg(a:Nat):Nat:=(L >>> (8*a))%256
def Du:Nat->(Nat->Bool)->Bool
 |0,_=>true
 |n+1,f=>bif f n then Du n f else false
theorem fG{n:Nat}{f:Nat->Bool}(h:Du n f=true):∀i,i<n->f i=true:=by
 induction n with
 |zero=>intro i hi;omega
 |succ n ih=>
  intro i hi;simp only[Du]at h;cases hf:f n with
  |false=>rw[hf]at h;simp at h
  |true=>
   rw[hf]at h;by_cases hin:i=n
   ·subst hin;exact hf
   ·exact ih h i (by omega)
theorem exps:Du 255 (fun i=>Nat.ble 1 (ex i)&&Nat.beq (lg (ex i)) i&&Nat.beq (Dk (ex i)) (ex ((i+1)%255)))=true:=by decide+kernel
theorem logs:Du 256 (fun a=>Nat.beq a 0||(Nat.beq (ex (lg a)) a&&Nat.ble (lg a) 254))=true:=by decide+kernel
theorem muls:Du 256 (fun a=>Du 256 (fun b=>Nat.beq (mul a b) (bif Nat.beq a 0||Nat.beq b 0 then 0 else ex ((lg a+lg b)%255))))=true:=by decide+kernel
theorem TT{a b:Nat}(h:a≠b):Nat.beq a b=false:=by
 cases hb:Nat.beq a b with
 |false=>rfl
 |true=>exact absurd (Nat.beq_eq.mp hb) h
theorem ex_lt(i:Nat):ex i<256:=Nat.mod_lt _ (by decide)
theorem YJ{i:Nat}(h:i<255):ex i≠0:=by
 have:=fG exps i h;simp only[Bool.and_eq_true,Nat.ble_eq]at this;omega
theorem ZH{i:Nat}(h:i<255):lg (ex i)=i:=by
 have:=fG exps i h;simp only[Bool.and_eq_true,Nat.ble_eq,Nat.beq_eq]at this;exact this.1.2
theorem Xh{a:Nat}(h:a<256)(h0:a≠0):ex (lg a)=a:=by
 have:=fG logs a h;simp only[Bool.and_eq_true,Bool.or_eq_true,Nat.ble_eq,Nat.beq_eq]at this;omega
theorem Ye{a:Nat}(h:a<256)(h0:a≠0):lg a<255:=by
 have:=fG logs a h;simp only[Bool.and_eq_true,Bool.or_eq_true,Nat.ble_eq,Nat.beq_eq]at this;omega
theorem lY{a b:Nat}(ha:a<256)(hb:b<256):mul a b=if a=0\/b=0 then 0 else ex ((lg a+lg b)%255):=by
 have:=fG (fG muls a ha) b hb;simp only[Nat.beq_eq]at this;rw[this];by_cases h0:a=0\/b=0
 ·have:(Nat.beq a 0||Nat.beq b 0)=true:=by simp[h0]
  rw[this,if_pos h0];rfl
 ·have:(Nat.beq a 0||Nat.beq b 0)=false:=by
   rw[TT (fun x=>h0 (Or.inl x)),TT (fun x=>h0 (Or.inr x))];rfl
  rw[this,if_neg h0];rfl
theorem mul_zero{a:Nat}(ha:a<256):mul a 0=0:=by rw[lY ha (by decide)];simp
theorem zero_mul{b:Nat}(hb:b<256):mul 0 b=0:=by rw[lY (by decide) hb];simp
theorem mul_lt{a b:Nat}(ha:a<256)(hb:b<256):mul a b<256:=by
 rw[lY ha hb];split
 ·decide
 ·exact ex_lt _
theorem mul_comm{a b:Nat}(ha:a<256)(hb:b<256):mul a b=mul b a:=by
 rw[lY ha hb,lY hb ha,Nat.add_comm];by_cases h:a=0\/b=0
 ·rw[if_pos h,if_pos h.symm]
 ·rw[if_neg h,if_neg (fun x=>h x.symm)]
theorem lZ{a b:Nat}(ha:a<256)(hb:b<256)(h1:a≠0)(h2:b≠0):mul a b≠0:=by
 rw[lY ha hb,if_neg (by omega)];exact YJ (Nat.mod_lt _ (by decide))
theorem yg{a b:Nat}(ha:a<256)(hb:b<256)(h1:a≠0)(h2:b≠0):lg (mul a b)=(lg a+lg b)%255:=by
 rw[lY ha hb,if_neg (by omega)];exact ZH (Nat.mod_lt _ (by decide))
theorem Gp{a b:Nat}(ha:a<256)(hb:b<256)(h1:a≠0)(h2:b≠0)(h:lg a=lg b):a=b:=by
 rw[<-Xh ha h1,<-Xh hb h2,h]
theorem mul_assoc{a b c:Nat}(ha:a<256)(hb:b<256)(hc:c<256):mul (mul a b) c=mul a (mul b c):=by
 by_cases h1:a=0
 ·subst h1;rw[zero_mul hb,zero_mul hc,zero_mul (mul_lt hb hc)]
 by_cases h2:b=0
 ·subst h2;rw[mul_zero ha,zero_mul hc,mul_zero ha]
 by_cases h3:c=0
 ·subst h3;rw[mul_zero (mul_lt ha hb),mul_zero hb,mul_zero ha]
 apply Gp (mul_lt (mul_lt ha hb) hc) (mul_lt ha (mul_lt hb hc)) (lZ (mul_lt ha hb) hc (lZ ha hb h1 h2) h3) (lZ ha (mul_lt hb hc) h1 (lZ hb hc h2 h3));rw[yg (mul_lt ha hb) hc (lZ ha hb h1 h2) h3,yg ha (mul_lt hb hc) h1 (lZ hb hc h2 h3),yg ha hb h1 h2,yg hb hc h2 h3];omega
theorem Yd:lg 1=0:=by decide+kernel
theorem mul_one{a:Nat}(ha:a<256):mul a 1=a:=by
 by_cases h:a=0
 ·subst h;exact zero_mul (by decide)
 apply Gp (mul_lt ha (by decide)) ha (lZ ha (by decide) h (by decide)) h;rw[yg ha (by decide) h (by decide),Yd];have:=Ye ha h;omega
theorem one_mul{a:Nat}(ha:a<256):mul 1 a=a:=by rw[mul_comm (by decide) ha,mul_one ha]
def C_:Nat->Nat->Nat->Nat
 |0,_,r=>r
 |n+1,a,r=>C_ n (mul a a) (mul r (mul a a))
def inv(a:Nat):Nat:=C_ 7 a 1
theorem invs:Du 256 (fun a=>Nat.beq a 0||(Nat.beq (mul a (inv a)) 1&&Nat.ble (inv a) 255&&Nat.ble 1 (inv a)))=true:=by decide+kernel
theorem CY{a:Nat}(ha:a<256)(h:a≠0):mul a (inv a)=1:=by
 have:=fG invs a ha;simp only[Bool.and_eq_true,Bool.or_eq_true,Nat.ble_eq,Nat.beq_eq]at this;omega
theorem inv_lt{a:Nat}(ha:a<256)(h:a≠0):inv a<256:=by
 have:=fG invs a ha;simp only[Bool.and_eq_true,Bool.or_eq_true,Nat.ble_eq,Nat.beq_eq]at this;omega
theorem xor_lt{a b:Nat}(ha:a<256)(hb:b<256):a ^^^ b<256:=Nat.xor_lt_two_pow (n:=8) ha hb
theorem YM(a:Nat):Dk a=if 256<=2*a then(2*a) ^^^ 285 else 2*a:=by
 unfold Dk;by_cases h:256<=2*a
 ·have:Nat.ble 256 (2*a)=true:=by simp[h]
  rw[this,if_pos h];rfl
 ·have:Nat.ble 256 (2*a)=false:=by
   cases hb:Nat.ble 256 (2*a)with
   |false=>rfl
   |true=>exact absurd (Nat.ble_eq.mp hb) h
  rw[this,if_neg h];rfl
theorem dbls:Du 256 (fun a=>Nat.ble (Dk a) 255)=true:=by decide+kernel
theorem Tq{a:Nat}(ha:a<256):Dk a<256:=by
 have:=fG dbls a ha;simp only[Nat.ble_eq]at this;omega
theorem dF(n a b p:Nat):fJ (n+1) a b p=fJ n (Dk a) (b/2) (if b%2=1 then p ^^^ a else p):=by
 show fJ n (Dk a) (b/2) _=_;by_cases h:b%2=1
 ·have:Nat.beq (b%2) 1=true:=by simp[h]
  rw[this,if_pos h];rfl
 ·have:Nat.beq (b%2) 1=false:=by
   cases hb:Nat.beq (b%2) 1 with
   |false=>rfl
   |true=>exact absurd (Nat.beq_eq.mp hb) h
  rw[this,if_neg h];rfl
theorem uX(n a p:Nat):fJ n a 0 p=p:=by
 induction n generalizing a p with
 |zero=>rfl
 |succ n ih=>rw[dF];simpa using ih (Dk a) p
theorem FH(n a b p:Nat)(h:b<2^n):fJ (n+1) a b p=fJ n a b p:=by
 induction n generalizing a b p with
 |zero=>
  have:b=0:=by simpa using h
  subst this;rw[uX];rfl
 |succ n ih=>
  rw[Nat.pow_succ]at h;rw[dF (n+1) a b p,ih _ _ _ (by omega),<-dF]
def rest(a b p:Nat):Nat:=fJ 8 a b p
theorem Nv(a p:Nat):rest a 0 p=p:=uX 8 a p
theorem rest_step{a b p:Nat}(hb:b<256):rest a b p=rest (Dk a) (b/2) (if b%2=1 then p ^^^ a else p):=by
 unfold rest;rw[<-FH 8 a b p hb,dF]
theorem qM(n a b p:Nat):fJ n a b p=p ^^^ fJ n a b 0:=by
 induction n generalizing a b p with
 |zero=>simp[fJ]
 |succ n ih=>
  rw[dF,dF,ih (Dk a) (b/2) (if b%2=1 then p ^^^ a else p),ih (Dk a) (b/2) (if b%2=1 then 0 ^^^ a else 0)];split
  ·rw[Nat.zero_xor,Nat.xor_assoc]
  ·rw[Nat.zero_xor]
theorem wQ(a b c d:Nat):(a ^^^ b) ^^^ (c ^^^ d)=(a ^^^ c) ^^^ (b ^^^ d):=by
 rw[Nat.xor_assoc,<-Nat.xor_assoc b,Nat.xor_comm b c,Nat.xor_assoc c,<-Nat.xor_assoc]
theorem Ji(n a b c:Nat):fJ n a (b ^^^ c) 0=fJ n a b 0 ^^^ fJ n a c 0:=by
 induction n generalizing a b c with
 |zero=>simp[fJ]
 |succ n ih=>
  rw[dF,dF n a b,dF n a c,qM n (Dk a) _ (if(b ^^^ c)%2=1 then _ else _),qM n (Dk a) (b/2),qM n (Dk a) (c/2),Nat.xor_div_two,ih,wQ];congr 1
  have hx:(b ^^^ c)%2=(b%2+c%2)%2:=by
   have:=Nat.xor_mod_two_pow (a:=b) (b:=c) (n:=1);rw[Nat.pow_one]at this;rw[this];rcases Nat.mod_two_eq_zero_or_one b with h|h<;>rcases Nat.mod_two_eq_zero_or_one c with h'|h'<;>rw[h,h']<;>rfl
  rw[hx];rcases Nat.mod_two_eq_zero_or_one b with h|h<;>rcases Nat.mod_two_eq_zero_or_one c with h'|h'<;>rw[h,h']<;>simp
theorem mul_add(a b c:Nat):mul a (b ^^^ c)=mul a b ^^^ mul a c:=Ji 8 a b c
theorem add_mul{a b c:Nat}(ha:a<256)(hb:b<256)(hc:c<256):mul (a ^^^ b) c=mul a c ^^^ mul b c:=by
 rw[mul_comm (xor_lt ha hb) hc,mul_add,mul_comm hc ha,mul_comm hc hb]
end Go.Proofs.YtmfpiodlecapiaaGreatDoor.Gf
namespace Go.Proofs.YtmfpiodlecapiaaGreatDoor
theorem aF(n:Int)(h0:0<=n)(h1:n<9223372036854775808):IntKind.i64.wrap n=n:=by
 simp[IntKind.wrap,IntKind.bits,IntKind.signed];omega
theorem bZ(n:Int)(h0:0<=n)(h1:n<256):IntKind.u8.wrap n=n:=by
 simp[IntKind.wrap,IntKind.bits,IntKind.signed];omega
theorem KZ(a b:Nat)(ha:a<4294967296)(hb:b<4294967296):bits .xor .i64 (a:Int) (b:Int)=((a ^^^ b:Nat):Int):=by
 have hx:a ^^^ b<2^32:=Nat.xor_lt_two_pow (by omega) (by omega);show IntKind.i64.wrap ((BitVec.ofInt 64 (a:Int) ^^^ BitVec.ofInt 64 (b:Int)).toNat:Int)=_;rw[BitVec.toNat_xor,ofInt_u64 a (by omega),ofInt_u64 b (by omega),aF _ (by omega) (by omega)]
theorem K_(a b:Nat)(ha:a<4294967296)(hb:b<4294967296):bits .and .i64 (a:Int) (b:Int)=((a &&& b:Nat):Int):=by
 have hx:a &&& b<2^32:=Nat.and_lt_two_pow _ (by omega);show IntKind.i64.wrap ((BitVec.ofInt 64 (a:Int) &&& BitVec.ofInt 64 (b:Int)).toNat:Int)=_;rw[BitVec.toNat_and,ofInt_u64 a (by omega),ofInt_u64 b (by omega),aF _ (by omega) (by omega)]
theorem FQ(a:Nat)(ha:a<4294967296):bits .and .i64 (a:Int) 1=((a%2:Nat):Int):=by
 have:=K_ a 1 ha (by omega);rw[nat_mask1]at this;exact this
open Go.RowKit
theorem sM(a b:Nat)(ha:a<4294967296)(hb:b<4294967296)(w:World):
  Calls Tryz.prog 168 #[.int .i64 a,.int .i64 b] w fun e w'=>e= .returned (.int .i64 ((a ^^^ b:Nat):Int))/\w'=w:=by
 have hx:=KZ a b ha hb;go_enter Tryz.func168,Tryz.ntmps168;go_wp2;go_ret;exact⟨rfl,rfl⟩
theorem Gu(a:Nat)(ha:a<256)(w:World):
  Calls Tryz.prog 169 #[.int .i64 a] w fun e w'=>e= .returned (.int .i64 (Gf.Dk a:Nat))/\w'=w:=by
 have hd:=Gf.YM a;by_cases h:256<=2*a
 ·have hx:bits .xor .i64 ((a:Int)*2) 285=((Gf.Dk a:Nat):Int):=by
   rw[hd,if_pos h];have:=KZ (2*a) 285 (by omega) (by omega);rw[<-this];congr 1;omega
  clear hd;go_enter Tryz.func169,Tryz.ntmps169;go_wp2;go_ret;exact⟨rfl,rfl⟩
 ·rw[hd,if_neg h];clear hd;have e2:((2*a:Nat):Int)=(a:Int)*2:=by omega
  rw[e2];clear e2;go_enter Tryz.func169,Tryz.ntmps169;go_wp2;go_ret;exact⟨rfl,rfl⟩
theorem F3(n:Int)(w:World):
  Calls Tryz.prog 111 #[.int .i64 n] w fun e w'=>e= .returned (.bool (decide (0<=n)&&decide (n<=255)))/\w'=w:=by
 by_cases h:0<=n
 ·go_enter Tryz.func111,Tryz.ntmps111;go_wp2;go_ret;exact⟨by simp[h],rfl⟩
 ·go_enter Tryz.func111,Tryz.ntmps111;go_wp2;go_ret
  exact⟨by have:¬(0<=n):=by omega
           simp[this],rfl⟩
theorem og(a b:Nat)(ha:a<256)(hb:b<256)(w:World):
  Calls Tryz.prog 112 #[.int .i64 a,.int .i64 b] w fun e w'=>e= .returned (.int .i64 (Gf.mul a b:Nat))/\w'=w:=by
 go_enter Tryz.func112,Tryz.ntmps112;go_wp2;go_loop [0,1,5] (fun x y z=>∃a' b' p:Nat,a'<256/\b'<256/\p<256/\x= .int .i64 a'/\y= .int .i64 b'/\z= .int .i64 p/\Gf.rest a' b' p=Gf.mul a b)
  (fun _ y _=>(intOf y).toNat)
 case atStart=>exact⟨a,b,0,ha,hb,by decide,rfl,rfl,rfl,rfl⟩
 case round=>
  obtain⟨a',b',p,ha',hb',hp,rfl,rfl,rfl,hr⟩:=hrel;have hand:=FQ b' (by omega);have hR:Hid (Gf.rest a' b' p=Gf.mul a b):=hr;clear hr;go_wp2_with first|(go_at_call 168;refine(sM _ _ (by omega) (by omega) _).mono ?_;rintro _ _ ⟨rfl,rfl⟩)|(go_at_call 169;refine(Gu _ (by omega) _).mono ?_;rintro _ _ ⟨rfl,rfl⟩)
  ·have hpos:0<b':=by assumption
   have h1:((b':Int)%2==1)=true:=by assumption
   have h2:b'%2=1:=by simp at h1;omega
   go_round
   case rel=>
    refine⟨Gf.Dk a',b'/2,p ^^^ a',Gf.Tq ha',by omega,Gf.xor_lt hp ha',rfl,by go_num,rfl,?_⟩;rw[<-hR.out,Gf.rest_step hb',if_pos h2]
   case measure=>simp[intOf];omega
  ·have hpos:0<b':=by assumption
   have h1:((b':Int)%2==1)=false:=by assumption
   have h2:¬b'%2=1:=by simp at h1;omega
   go_round
   case rel=>
    refine⟨Gf.Dk a',b'/2,p,Gf.Tq ha',by omega,hp,rfl,by go_num,rfl,?_⟩;rw[<-hR.out,Gf.rest_step hb',if_neg h2]
   case measure=>simp[intOf];omega
  ·have h0:b'=0:=by omega
   subst h0;have e:p=Gf.mul a b:=by rw[<-hR.out,Gf.Nv]
   rw[<-e];go_ret;exact⟨rfl,rfl⟩
theorem mD(a:Nat)(ha:a<256)(w:World):
  Calls Tryz.prog 113 #[.int .i64 a] w fun e w'=>e= .returned (.int .i64 (Gf.inv a:Nat))/\w'=w:=by
 go_enter Tryz.func113,Tryz.ntmps113;go_wp2;go_loop [0,3,4] (fun x y z=>∃a' r i:Nat,a'<256/\r<256/\i<=7/\x= .int .i64 a'/\y= .int .i64 r/\z= .int .i64 i/\Gf.C_ (7-i) a' r=Gf.inv a)
  (fun _ _ z=>7-(intOf z).toNat)
 case atStart=>exact⟨a,1,0,ha,by decide,by decide,rfl,rfl,rfl,rfl⟩
 case round=>
  obtain⟨a',r,i,ha',hr',hi,rfl,rfl,rfl,hr⟩:=hrel;have hm:=Gf.mul_lt ha' ha';have hm2:=Gf.mul_lt hr' hm;have hR:Hid (Gf.C_ (7-i) a' r=Gf.inv a):=hr;clear hr;go_wp2_with (go_at_call 112;refine(og _ _ (by omega) (by omega) _).mono ?_;rintro _ _ ⟨rfl,rfl⟩)
  ·have hlt:i<7:=by omega
   go_round
   case rel=>
    refine⟨Gf.mul a' a',Gf.mul r (Gf.mul a' a'),i+1,hm,hm2,by omega,rfl,rfl,by go_num,?_⟩;rw[<-hR.out];have:7-i=(7-(i+1))+1:=by omega
    rw[this];rfl
   case measure=>simp[intOf];omega
  ·have h0:i=7:=by omega
   subst h0;have e:r=Gf.inv a:=by rw[<-hR.out];rfl
   rw[<-e];go_ret;exact⟨rfl,rfl⟩
theorem OL(a b:Nat)(ha:a<256)(hb:b<256)(w:World):
  Calls Tryz.prog 60 #[.int .i64 a,.int .i64 b] w fun e w'=>e= .returned (.tuple #[.int .i64 (Gf.mul a b:Nat),.int .i64 0])/\w'=w:=by
 have h1:(decide ((0:Int)<=(a:Int))&&decide ((a:Int)<=255))=true:=by simp;omega
 have h2:(decide ((0:Int)<=(b:Int))&&decide ((b:Int)<=255))=true:=by simp;omega
 go_enter Tryz.func60,Tryz.ntmps60;go_wp2_with first|(go_at_call 111;refine(F3 _ _).mono ?_;rintro _ _ ⟨rfl,rfl⟩;simp only[h1,h2])|(go_at_call 112;refine(og _ _ (by omega) (by omega) _).mono ?_;rintro _ _ ⟨rfl,rfl⟩)
 go_ret2
 exact⟨rfl,rfl⟩
theorem zW(a:Nat)(ha:a<256)(h0:a≠0)(w:World):
  Calls Tryz.prog 61 #[.int .i64 a] w fun e w'=>e= .returned (.tuple #[.int .i64 (Gf.inv a:Nat),.int .i64 0])/\w'=w:=by
 have h1:(decide ((0:Int)<=(a:Int))&&decide ((a:Int)<=255))=true:=by simp;omega
 have h2:((a:Int)==0)=false:=by simp;omega
 go_enter Tryz.func61,Tryz.ntmps61;go_wp2_with first|(go_at_call 111;refine(F3 _ _).mono ?_;rintro _ _ ⟨rfl,rfl⟩;simp only[h1])|(go_at_call 113;refine(mD _ (by omega) _).mono ?_;rintro _ _ ⟨rfl,rfl⟩)
 go_ret2
 exact⟨rfl,rfl⟩
end Go.Proofs.YtmfpiodlecapiaaGreatDoor
namespace Go.Proofs.YtmfpiodlecapiaaGreatDoor.Pk
def weight(j i:Nat):Nat:=Gf.inv ((255-j) ^^^ i)
def dN(S bs:List Nat)(t:Nat):List Nat:=List.zipWith (fun x y=>x ^^^ Gf.mul y t) S bs
theorem m_(S bs:List Nat)(t:Nat)(h:bs.length=S.length):(dN S bs t).length=S.length:=by simp[dN,h]
theorem addTimes_at(S bs:List Nat)(t k:Nat)(h:bs.length=S.length)(hk:k<S.length):(dN S bs t)[k]? =some (S[k]?.getD 0 ^^^ Gf.mul (bs[k]?.getD 0) t):=by
 simp[dN,hk,h]
def piece(blk:List Nat)(s i:Nat):List Nat:=(blk.drop (i*s)).take s
def sumTo(blk:List Nat)(s j:Nat):Nat->List Nat
 |0=>List.replicate s 0
 |k+1=>dN (sumTo blk s j k) (piece blk s k) (weight j k)
theorem piece_length{blk:List Nat}{s i K:Nat}(h:blk.length=K*s)(hi:i<K):(piece blk s i).length=s:=by
 have:=Nat.mul_le_mul_right s hi;rw[Nat.succ_mul]at this;simp[piece];omega
theorem lD{blk:List Nat}(h:∀x∈blk,x<256)(s i:Nat):∀x∈piece blk s i,x<256:=fun x hx=>h x (List.mem_of_mem_drop (List.mem_of_mem_take hx))
theorem piece_at{blk:List Nat}{s i c:Nat}(hc:c<s):(piece blk s i)[c]? =blk[i*s+c]? :=by simp[piece,hc]
theorem GX{S bs:List Nat}{t:Nat}(hS:∀x∈S,x<256)(hb:∀x∈bs,x<256)(ht:t<256):∀x∈dN S bs t,x<256:=by
 intro x hx;unfold dN at hx;rw[List.zipWith_eq_zipWith_take_min]at hx;simp only[List.mem_iff_getElem,List.getElem_zipWith]at hx;obtain⟨i,hi,rfl⟩:=hx;refine Gf.xor_lt (hS _ ?_) (Gf.mul_lt (hb _ ?_) ht)
 iterate 2 (·exact List.mem_of_mem_take (List.getElem_mem _))
theorem Me{j i:Nat}(hj:j<32)(hi:i<32):(255-j) ^^^ i≠0:=by
 intro h;have e:(255-j)=i:=by
  have:((255-j) ^^^ i) ^^^ i=0 ^^^ i:=by rw[h]
  rw[Nat.xor_assoc,Nat.xor_self,Nat.xor_zero,Nat.zero_xor]at this;exact this
 omega
theorem iB{j i:Nat}(hj:j<32)(hi:i<32):weight j i<256:=Gf.inv_lt (Gf.xor_lt (by omega) (by omega)) (Me hj hi)
theorem sumTo_length{blk:List Nat}{s j K:Nat}(h:blk.length=K*s):∀k,k<=K->(sumTo blk s j k).length=s:=by
 intro k;induction k with
 |zero=>intro _;simp[sumTo]
 |succ k ih=>
  intro hk;have h1:=ih (by omega);rw[sumTo,m_ _ _ _ (by rw[piece_length h hk,h1]),h1]
theorem Eu{blk:List Nat}{s j:Nat}(hb:∀x∈blk,x<256)(hj:j<32):∀k,k<=32->∀x∈sumTo blk s j k,x<256:=by
 intro k;induction k with
 |zero=>intro _ x hx;simp[sumTo]at hx;omega
 |succ k ih=>intro hk;exact GX (ih (by omega)) (lD hb s k) (iB hj (by omega))
def pieceN(blk:List Nat)(s K n:Nat):List Nat:=if n<K then piece blk s n else sumTo blk s (n-K) K
theorem d_{blk:List Nat}{s K n:Nat}(h:blk.length=K*s):(pieceN blk s K n).length=s:=by
 unfold pieceN;split
 ·exact piece_length h (by assumption)
 ·exact sumTo_length h K (Nat.le_refl _)
theorem NG{blk:List Nat}{s K n:Nat}(hb:∀x∈blk,x<256)(hK:K<=32)(hn:n<K+32):∀x∈pieceN blk s K n,x<256:=by
 unfold pieceN;split
 ·exact lD hb s n
 ·exact Eu hb (by omega) K hK
def head(id len s m p z q:Nat):List Nat:= [70,id/256,id%256,len/256,len%256,s,m,p,z,q]
def packet(id len s m p z q:Nat)(bs:List Nat):List Nat:=head id len s m p z q++bs
def fQ(id len s m p z K:Nat)(blk:List Nat):List (List Nat):=(List.range (K+p)).map (fun q=>packet id len s m p z q (pieceN blk s K q))
theorem jV(id len s m p z K:Nat)(blk:List Nat):(fQ id len s m p z K blk).length=K+p:=by simp[fQ]
theorem xU{id len s m p z K q:Nat}{blk:List Nat}(h:q<K+p):(fQ id len s m p z K blk)[q]? =some (packet id len s m p z q (pieceN blk s K q)):=by simp[fQ,h]
def kL(D L:List Nat)(s z:Nat):List Nat:=(D.drop ((L.take z).sum*s)).take (L[z]?.getD 0*s)
def filled(obj:List Nat)(M:Nat):List Nat:=obj++List.replicate (M-obj.length) 0
def upTo(id len s m p:Nat)(L D:List Nat)(k:Nat):List (List Nat):=(List.range k).flatMap (fun z=>fQ id len s m p z (L[z]?.getD 0) (kL D L s z))
theorem sW(id len s m p:Nat)(L D:List Nat)(k:Nat):upTo id len s m p L D (k+1)=upTo id len s m p L D k++fQ id len s m p k (L[k]?.getD 0) (kL D L s k):=by
 simp[upTo,List.range_succ]
def packets(id:Nat)(obj:List Nat)(s m p:Nat):List (List Nat):=
 upTo id obj.length s m p (Cut.sizes obj.length s m) (filled obj (Cut.pieces obj.length s*s)) (Cut.sizes obj.length s m).length
theorem uJ(id len s m p:Nat)(L D:List Nat):∀k,k<=L.length->(upTo id len s m p L D k).length=(L.take k).sum+k*p:=by
 intro k;induction k with
 |zero=>intro _;simp[upTo]
 |succ k ih=>
  intro hk;have e:L[k]? =some (L[k]?.getD 0):=by simp[show k<L.length by omega]
  rw[sW,List.length_append,ih (by omega),jV,List.take_add_one,e,Nat.succ_mul];simp;omega
def start(L:List Nat)(p z:Nat):Nat:=(L.take z).sum+z*p
theorem iE{L:List Nat}{p z:Nat}(h:z<L.length):start L p (z+1)=start L p z+(L[z]?.getD 0+p):=by
 have e:L[z]? =some (L[z]?.getD 0):=by simp[h]
 unfold start;rw[List.take_add_one,e,Nat.succ_mul];simp;omega
theorem qD{L:List Nat}{p z:Nat}:∀k,z<=k->k<=L.length->start L p z<=start L p k:=by
 intro k hk;induction hk with
 |refl=>intro _;exact Nat.le_refl _
 |@step m hm ih=>
  intro hk;have h:=iE (p:=p) (show m<L.length from hk);have:=ih (Nat.le_of_lt hk);show start L p z<=start L p (m+1);omega
theorem ru{id len s m p:Nat}{L D:List Nat}{k:Nat}(hk:k<=L.length):(upTo id len s m p L D k).length=start L p k:=uJ _ _ _ _ _ _ _ k hk
theorem UG{id len s m p:Nat}{L D:List Nat}{z i:Nat}:∀k,z<k->k<=L.length->i<L[z]?.getD 0+p->(upTo id len s m p L D k)[start L p z+i]? =some (packet id len s m p z i (pieceN (kL D L s z) s (L[z]?.getD 0) i)):=by
 intro k;induction k with
 |zero=>intro h;omega
 |succ k ih=>
  intro hz hk hi;rw[sW];by_cases hzk:z<k
  ·have h1:=iE (L:=L) (p:=p) (show z<L.length by omega);have h2:=qD (L:=L) (p:=p) (z:=z+1) k hzk (by omega);rw[List.getElem?_append_left (by rw[ru (by omega)];omega)];exact ih hzk (by omega) hi
  ·have e:z=k:=by omega
   subst e;rw[List.getElem?_append_right (by rw[ru (by omega)];omega),ru (by omega),Nat.add_sub_cancel_left];exact xU hi
theorem zP{id len s m p z q:Nat}{bs:List Nat}(h:bs.length=s):(packet id len s m p z q bs).length=10+s:=by
 simp[packet,head,h];omega
end Go.Proofs.YtmfpiodlecapiaaGreatDoor.Pk
