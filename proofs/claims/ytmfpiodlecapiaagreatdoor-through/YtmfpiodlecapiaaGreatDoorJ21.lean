import Derived.Maps.RangeWalk
import Derived.Test.YtmfpiodlecapiaaGreatDoorJ20
import Derived.Laws.BytesArg
import Derived.Lib.SlBytesConst
import Derived.Laws.IdiomStrings
import Derived.BigRegion
import Derived.Deep.RegionHeld3
set_option maxHeartbeats 1000000
set_option maxRecDepth 1000000
namespace Go.Proofs.YtmfpiodlecapiaaGreatDoor
open Go.Proofs.Tryz
section
open Go.RowKit Go.Deep
attribute [local go_sem↓] Go.wp_at_zero Go.wp_at_succ
theorem QK(n:Int)(w:World):
  Calls prog 30 #[.int .i64 n] w fun e w'=>e= .returned (.bool (decide (0<=n)&&decide (n<=65535)))/\w'=w:=by
 by_cases h:0<=n
 .go_enter func30,ntmps30;go_wp2;go_ret;exact⟨by simp[h],rfl⟩
 .go_enter func30,ntmps30;go_wp2;go_ret
  exact⟨by have:¬(0<=n):=by omega
           simp[this],rfl⟩
theorem Cc(ao:Option Addr)(n cap:Nat)(id:Int)(s m p:Nat)(hl:n<=2000)(h1:1<=s)(h2:s<=16)(h3:1<=m)(h4:m<=20)(h5:p<=20)(hc:¬Cut.blocks (Cut.pieces n s) m<=256)(w:World):
  Calls prog 14 #[.int .i64 id,.slice ao n cap,.agg #[.int .i64 s,.int .i64 m,.int .i64 p]] w fun e w'=>e= .returned (.tuple #[.slice none 0 0,.int .i64 1])/\Below w.heap.size w w':=by
 have du:=hide ((Below.refl w.heap.size w).alloc (Nat.le_refl _) (.cells #[.int .i64 s,.int .i64 m,.int .i64 p] 35));have C:=hide (fun w=>(cO n s m p hl h1 h2 h3 h4 h5 w).2 hc);clear hc;go_enter func14,ntmps14;go_wp2_with (go_at_call 29;refine(C.out _).mono ?_;rintro _ w1 ⟨rfl,bp⟩;replace bp:=hide bp)
 go_ret2
 exact⟨rfl,du.out.trans (bp.out.mono (by simp))⟩
theorem Ce(ao:Option Addr)(n cap id s m p Z N M c:Nat)(obj L:List Nat)(hid:id<65536)(hl:n<=2000)(h1:1<=s)(h2:s<=16)(h3:1<=m)(h4:m<=20)(h5:p<=20)
  (hZ:Z<=256)(BE:Hid (L.length=Z))(Y5:Hid (L.sum=N))(xd:Hid (∀k∈L,1<=k/\k<=m))(hN:N<=2000)(hM:(N:Int)*(s:Int)=(M:Int))(On:M<=32000)(Rm:n<=M)(hc:(10:Int)+(s:Int)=(c:Int))
  (C:Hid (∀w,Calls prog 29 #[.int .i64 n,.agg #[.int .i64 s,.int .i64 m,.int .i64 p]] w fun e w'=>
    ∃g,w.heap.size<=g/\e= .returned (.tuple #[.slice (some ⟨g,0,none⟩) Z Z,.bool true])/\Below w.heap.size w w'/\aB w' g 3 (dF L)))(w:World)(gI:mF w ao n obj):
  Calls prog 14 #[.int .i64 id,.slice ao n cap,.agg #[.int .i64 s,.int .i64 m,.int .i64 p]] w fun e w'=>
   ∃v gs,e= .returned (.tuple #[v,.int .i64 0])/\Packs w' w.heap.size v c (Pk.upTo id n s m p L (Pk.filled obj M) Z) gs/\Below w.heap.size w w':=by
 have du:=hide ((Below.refl w.heap.size w).alloc (Nat.le_refl _) (.cells #[.int .i64 s,.int .i64 m,.int .i64 p] 35));have e1:(decide ((0:Int)<=(id:Int))&&decide ((id:Int)<=65535))=true:=by simp;omega
 have HO:=hide gI;clear gI;go_enter func14,ntmps14;go_wp2_with first|(go_at_call 29;refine(C.out _).mono ?_;rintro _ w1 ⟨gB,hgB,rfl,bp,dg⟩;have dm:w.heap.size<w1.heap.size:=(by have:=bp.size;simp at this;omega);have c0:=cell_later bp (uM w _ _ _ _);have c1:=cell_later bp (yD w _ _ _ _);have c2:=cell_later bp (OC w _ _ _ _);replace bp:=hide bp;replace dg:=hide dg)|(go_at_call 30;refine(QK _ _).mono ?_;rintro _ w1' ⟨rfl,hx⟩;have lE:=hx.symm;subst lE;simp only[e1])
 have hLN:Hid (∀k,k<=Z->(L.take k).sum*s<=M):=by
  intro k _;have h:=Nat.mul_le_mul_right s (lM L k);rw[Y5.out]at h;have:N*s=M:=by rw[<-Int.natCast_mul]at hM;omega
  omega
 have hF:=hide (Jv ao n cap gB Z Z s N M obj L BE Y5 (by omega) hM (by omega) Rm (by omega) (w1.alloc (.cells #[.int .i64 id,.int .i64 n,.int .i64 s,.int .i64 m,.int .i64 p,.int .i64 0,.int .i64 0] 76))
  (((HO.out.later du.out).later bp.out).later ((Below.refl _ _).alloc (Nat.le_refl _) _)) (dg.out.alloc _))
 have hbH:=hide (aK w1 #[.int .i64 id,.int .i64 n,.int .i64 s,.int .i64 m,.int .i64 p,.int .i64 0,.int .i64 0] 76);refine hF.out.mono ?_;rintro _ w3 ⟨rfl,cQ,ib⟩;have AG:w1.heap.size+1<w3.heap.size:=by have:=ib.lt;simp at this;exact this
 have d0:w3.cell? ⟨w.heap.size,0,none⟩=some (.int .i64 s):=(cQ.cell (by simp;omega)).trans ((World.cell?_of_block (blk_alloc_lt _ _ _ (by exact dm))).trans c0);have BV:=hide (hbH.out.later cQ);have UT:=hide ((dg.out.alloc (.cells #[.int .i64 id,.int .i64 n,.int .i64 s,.int .i64 m,.int .i64 p,.int .i64 0,.int .i64 0] 76)).later cQ);have hF3:Hid (aB w3 (w1.heap.size+1) 5 (bO (Pk.filled obj M))):=by
  have h:=ib;simp at h;exact h
 have pS:=hide cQ;have D0:=hide d0;clear cQ ib hF c0 c1 c2 d0;have hgB1:gB<w1.heap.size:=dg.out.lt;simp only[World.size_alloc];go_wp2;go_loopw [10,12,41] (fun v rest x wr=>∃(k a o r x5:Nat) (gs:List Nat),k<=Z/\x= .int .i64 k/\rest= .slice (some ⟨w1.heap.size+1,a,none⟩) r r/\(0<r->a=o)/\o+r=M/\Hid (o=(L.take k).sum*s)/\
   Packs wr w3.heap.size v c (Pk.upTo id n s m p L (Pk.filled obj M) k) gs/\Kp (fun q=>q=w1.heap.size) w3 wr/\aB wr w1.heap.size 76 [.int .i64 id,.int .i64 n,.int .i64 s,.int .i64 m,.int .i64 p,.int .i64 x5,.int .i64 0])
  (fun _ _ x _=>leftOf Z (intOf x).toNat)
 case atStart=>exact⟨0,0,0,M,0,[],by omega,rfl,rfl,fun _=>rfl,by omega,(show 0=_ by simp),Packs.nil _ _ _,Kp.refl _ _,BV.out⟩
 case round=>
  obtain⟨k,a,o,r,x5,gs,hk,rfl,rfl,NN,Ds,ho,gr,er,gJ⟩:=hrel;by_cases ai:k<Z
  .have Oq:k<L.length:=by rw[BE.out];exact ai
   have T1:1<=L[k]?.getD 0/\L[k]?.getD 0<=m:=by
    have e:L[k]?.getD 0=L[k]:=by simp[Oq]
    rw[e];exact xd.out _ (List.getElem_mem Oq)
   have eA:wr.cell? ⟨gB,k,none⟩=some (.int .i64 ((L[k]?.getD 0:Nat):Int)):=(er.row UT.out (by omega)).cell k _ (qM Oq);have fc:Hid ((L.take (k+1)).sum*s=o+L[k]?.getD 0*s):=by
    show _=_;rw[jH (getD_some Oq),Nat.add_mul,<-ho.out]
   have hle:=hLN.out (k+1) (by omega);rw[fc.out]at hle;have pZ:Hid (Pk.upTo id n s m p L (Pk.filled obj M) (k+1)=Pk.upTo id n s m p L (Pk.filled obj M) k++Pk.iy id n s m p k (L[k]?.getD 0) (Pk.mD (Pk.filled obj M) L s k)):=Pk.uX _ _ _ _ _ _ _ _;have Sk:Hid ((Pk.filled obj M).length=M):=Pk.B_ (by rw[HO.out.1];exact Rm);have cN:Hid ((Pk.mD (Pk.filled obj M) L s k).length=L[k]?.getD 0*s):=by
    show _=_;unfold Pk.mD;rw[List.length_take,List.length_drop,Sk.out,<-ho.out];omega
   have oA:∀x∈Pk.mD (Pk.filled obj M) L s k,x<256:=fun x hx=>Pk.Rh HO.out.2.1 x (List.mem_of_mem_drop (List.mem_of_mem_take hx));have NL:Hid (∀q,q<L[k]?.getD 0*s->(Pk.filled obj M)[o+q]? =(Pk.mD (Pk.filled obj M) L s k)[q]?):=by
    intro q hq;unfold Pk.mD;rw[List.getElem?_take,if_pos hq,List.getElem?_drop,<-ho.out]
   obtain⟨blk,eE⟩:∃blk,blk=Pk.mD (Pk.filled obj M) L s k:=⟨_,rfl⟩;obtain⟨K,hKK⟩:∃K,K=L[k]?.getD 0:=⟨_,rfl⟩;rw[<-eE]at pZ cN oA NL;rw[<-hKK]at eA fc hle T1 pZ cN NL;clear hKK eE;obtain⟨nn,tW⟩:∃nn,nn=K*s:=⟨_,rfl⟩;have TZ:(K:Int)*(s:Int)=(nn:Int):=by rw[tW];simp
   rw[<-tW]at hle fc NL cN;have hNN:=hide tW;have qf:nn<=r:=by omega
   have hnn1:1<=nn:=by
    have:=Nat.mul_le_mul T1.1 h1;omega
   have ha:=NN (by omega);subst ha;clear NN;obtain⟨T,hT⟩:∃T:Nat,(K:Int)+(p:Int)=(T:Int):=⟨K+p,by omega⟩;clear tW Oq;have e0:=gJ.cell 0 _ rfl;have e1:=gJ.cell 1 _ rfl;have e2:=gJ.cell 2 _ rfl;have e3:=gJ.cell 3 _ rfl;have e4:=gJ.cell 4 _ rfl;have e5:=gJ.cell 5 _ rfl;have e6:=gJ.cell 6 _ rfl;have f5:=gJ.frozen 5;have d0:wr.cell? ⟨w.heap.size,0,none⟩=some (.int .i64 s):=(World.cell?_of_block (er.block w.heap.size (by omega) (by omega))).trans D0.out;have eI:(Pk.upTo id n s m p L (Pk.filled obj M) k).length<=65536:=by
    rw[Pk.wF _ _ _ _ _ _ _ k (by rw[BE.out];omega)];have h8:=lM L k;rw[Y5.out]at h8;have h9:k*p<=256*20:=Nat.mul_le_mul (by omega) h5;omega
   have cX:=er.row hF3.out (by omega);have mf:=gr.setCell (i:=5) gJ (by decide) (by decide) (.int .i64 k);have cC:Hid ((wr.setCell ⟨w1.heap.size,5,none⟩ (.int .i64 k)).heap.size=wr.heap.size):=by show _=_;simp[World.setCell]
   have hAP:=hide (sP (w1.heap.size+1) a r id n s m p k 0 K nn T c w3.heap.size (Pk.filled obj M) blk gs u10 _ hid (by omega) h1 h2 h4 h5 (by omega) T1.1 (by omega) (by show _=_;rw[cN.out,hNN.out]) hNN oA (by omega) qf (by omega) hT hc
    (wr.setCell ⟨w1.heap.size,5,none⟩ (.int .i64 k)).drew ((cX.other (by simp) _).drew) NL (mf.of_block (fun _ _=>rfl) (fun _ _=>rfl)) (by have:=er.size;have:=cC.out;show _<=(wr.setCell _ _).heap.size;omega) eI)
   have Vb:=hide (gJ.set 5 (.int .i64 k));have Yj:=hide ((er.setCell (a:=⟨w1.heap.size,5,none⟩) (Or.inl rfl) (.int .i64 k)).drew);have Wb:=hide mf;have sg:(0:Int)<=(k:Int):=by omega
   have qi:(k:Int)<(Z:Int):=by omega
   have My:(0:Int)<=(nn:Int):=by omega
   have ta:(nn:Int)<=(r:Int):=by omega
   have hwn:IntKind.i64.wrap (nn:Int)=(nn:Int):=aH _ (by omega) (by omega);clear gr er gJ cX mf eI oA;go_wp2_with fail
   go_region_with (go_at_call 32;refine hAP.out.mono ?_;rintro _ w4 ⟨v4,gs4,rfl,I3,yl⟩)
   all_goals
    have l_:=Wb.out.at_;have RM:Kp (fun q=>q=w1.heap.size) w3 w4:=Yj.out.join yl (fun q hq=>Or.inr (l_ q hq));have d4:w4.cell? ⟨w.heap.size,0,none⟩=some (.int .i64 s):=(World.cell?_of_block (RM.block w.heap.size (by omega) (by omega))).trans D0.out;have ic:=yl.row Vb.out.drew (fun h=>by have:=l_ _ h;omega);have Pd:=hide I3;have HK4:=hide RM;have HB4:=hide ic;clear I3 yl l_ RM ic d0 e0 e1 e2 e3 e4 e5 e6 f5;go_wp2;go_roundw
    case rel=>
     refine⟨k+1,if r=nn then a else a+nn,a+nn,r-nn,k,gs4,by omega,by go_num,?_,?_,by omega,?_,?_,HK4.out,HB4.out⟩
     .split<;>rfl
     .intro hr;rw[if_neg (by omega)]
     .show a+nn=_;rw[fc.out]
     .have h9:=Pd.out;rw[<-pZ.out]at h9;exact h9
    case measure=>refine aW ?_ ?_<;>simp only[intOf]<;>omega
  .have e:k=Z:=by omega
   subst e;have Wb:=hide gr;have xn:=hide er
   clear gr er gJ;go_wp2;go_ret2
   refine⟨_,gs,rfl,Wb.out.mono ?_,?_⟩
   .have:=bp.out.size;omega
   .have h1:=du.out.trans (bp.out.mono (by simp));have h2:=(h1.alloc (by omega) (.cells #[.int .i64 id,.int .i64 n,.int .i64 s,.int .i64 m,.int .i64 p,.int .i64 0,.int .i64 0] 76)).trans (pS.out.mono (by simp;omega));exact h2.trans (xn.out.toBelow (by intro q hq;omega) (by omega))
theorem rG(ao:Option Addr)(n cap id s m p:Nat)(obj:List Nat)(hid:id<65536)(hl:n<=2000)(h1:1<=s)(h2:s<=16)(h3:1<=m)(h4:m<=20)(h5:p<=20)(hc:Cut.blocks (Cut.pieces n s) m<=256)(w:World)(gI:mF w ao n obj):
  Calls prog 14 #[.int .i64 id,.slice ao n cap,.agg #[.int .i64 s,.int .i64 m,.int .i64 p]] w fun e w'=>
   ∃v gs,e= .returned (.tuple #[v,.int .i64 0])/\Packs w' w.heap.size v (10+s) (Pk.packets id obj s m p) gs/\Below w.heap.size w w':=by
 have iu:=Cut.Dl hl h1;have On:Cut.pieces n s*s<=32000:=Nat.le_trans (Nat.mul_le_mul iu h2) (by omega);have hP:Pk.packets id obj s m p=Pk.upTo id n s m p (Cut.sizes n s m) (Pk.filled obj (Cut.pieces n s*s)) (Cut.blocks (Cut.pieces n s) m):=by
  unfold Pk.packets;rw[gI.1,Cut.iV]
 rw[hP];exact Ce ao n cap id s m p (Cut.blocks (Cut.pieces n s) m) (Cut.pieces n s) (Cut.pieces n s*s) (10+s) obj (Cut.sizes n s m) hid hl h1 h2 h3 h4 h5 hc (Cut.iV _ _ _) (Cut.vG h3) (Cut.kE h3) iu (by simp) On (Cut.nJ h1) (by omega)
  (fun w=>(cO n s m p hl h1 h2 h3 h4 h5 w).1 hc) w gI
end
section
open Go.RowKit Go.Deep
variable{w:World}{g n s m p k i a b x:Nat}{bs t:List Nat}{f:Nat->Nat}
def strOf(bs:List Nat):ByteArray:=strOfNums (bs.map (fun n:Nat=>(n:Int)))
theorem tL(bs:List Nat):strOf bs=⟨(bs.map (fun n:Nat=>UInt8.ofNat n)).toArray⟩:=by
 unfold strOf strOfNums;congr 2
 simp
theorem VD{off cap:Nat}{L:List Value}(hr:aB w g 5 L)(hl:bs.length=n)(hL:∀j,j<n->L[off+j]? =some (.int .u8 ((bs[j]?.getD 0:Nat):Int))):
  (convert 28 9 (.slice (some ⟨g,off,none⟩) n cap)).run prog w= .ok (.string (strOf bs)) w:=by
 refine run_convert_bytes_arg w 28 5 underlying28 underlying5 g off n cap (bs.map (fun n:Nat=>(n:Int))) (by simpa using hl) ?_ 9 underlying9;intro i hi;rw[hr.cell _ _ (hL i hi)];simp[List.getD,hl▸hi]
theorem VE{cap:Nat}(hr:aB w g 5 (bO bs))(hl:bs.length=n):(convert 28 9 (.slice (some ⟨g,0,none⟩) n cap)).run prog w= .ok (.string (strOf bs)) w:=
 VD hr hl (fun j hj=>by rw[Nat.zero_add];exact gX (by omega))
theorem bU(w:World)(C:Array Value)(e:TypeId)(fr:Nat×Nat)(i:Nat)(v:Value)(hv:C[i]? =some v):(w.alloc (.cells C e fr)).cell? ⟨w.heap.size,i,none⟩=some v:=by
 have h:=blk_alloc_new w (.cells C e fr);unfold World.cell?;rw[show(w.alloc (.cells C e fr)).heap[(⟨w.heap.size,i,none⟩:Addr).block]? =_ from h];exact hv
theorem ex1:Gf.mul 2 128=29:=by decide+kernel
theorem ex2:Gf.inv 2=142:=by decide+kernel
theorem ex3:Pk.packets 5 [97,98] 2 1 1= [[70,0,5,0,2,2,1,1,0,0,97,98],[70,0,5,0,2,2,1,1,0,1,154,128]]:=by decide+kernel
theorem ex3':Cut.blocks (Cut.pieces 2 2) 1<=256:=by decide+kernel
theorem Pn(w:World):Calls prog 28 #[] w fun e w'=>e= .returned (.bool true)/\Below w.heap.size w w':=by
 have C1:Hid (∀w,Calls prog 60 #[.int .i64 2,.int .i64 128] w fun e w'=>e= .returned (.tuple #[.int .i64 29,.int .i64 0])/\w'=w):=by
  intro w;have:=Ri 2 128 (by omega) (by omega) w;rw[ex1]at this;exact this
 have C2:Hid (∀w,Calls prog 61 #[.int .i64 2] w fun e w'=>e= .returned (.tuple #[.int .i64 142,.int .i64 0])/\w'=w):=by
  intro w;have:=Ci 2 (by omega) (by omega) w;rw[ex2]at this;exact this
 have du:=hide ((Below.refl w.heap.size w).alloc (Nat.le_refl _) (.cells #[.int .u8 97,.int .u8 98] 5 (2,3)));have C3:Hid (Calls prog 14 #[.int .i64 5,.slice (some ⟨w.heap.size,0,none⟩) 2 2,.agg #[.int .i64 2,.int .i64 1,.int .i64 1]] (w.alloc (.cells #[.int .u8 97,.int .u8 98] 5 (2,3))) fun e w'=>
   ∃g0 cap g1,e= .returned (.tuple #[.slice (some ⟨g0,0,none⟩) 2 cap,.int .i64 0])/\Below (w.alloc (.cells #[.int .u8 97,.int .u8 98] 5 (2,3))).heap.size (w.alloc (.cells #[.int .u8 97,.int .u8 98] 5 (2,3))) w'/\w'.cell? ⟨g0,1,none⟩=some (.slice (some ⟨g1,0,none⟩) 12 12)/\
    (convert 28 9 (.slice (some ⟨g1,0,none⟩) 12 12)).run prog w'= .ok (.string (strOf [70,0,5,0,2,2,1,1,0,1,154,128])) w'):=by
  refine(rG (some ⟨w.heap.size,0,none⟩) 2 2 5 2 1 1 [97,98] (by omega) (by omega) (by omega) (by omega) (by omega) (by omega) (by omega) ex3' _ ?_).mono ?_
  .refine⟨rfl,by decide,fun _=>⟨_,_,rfl,?_⟩⟩;intro j hj;rw[Nat.zero_add];match j,hj with
   |0,_=>exact bU _ _ _ _ _ _ rfl
   |1,_=>exact bU _ _ _ _ _ _ rfl
  .rintro e w' ⟨v,gs,rfl,hp,hb⟩;rw[ex3]at hp;have hl:=hp.len;match gs,hl with
   |[ga,gb],_=>
    obtain⟨g,cap,cur,rfl,hr,h1,h2,h3,h4⟩:=hp.own.open' (by simp);refine⟨g,cap,gb,rfl,hb,?_,?_⟩
    .exact hr.cell 1 _ (take_at h4 rfl)
    .exact VE (hp.row 1 gb _ rfl rfl) rfl
 have kc:=fun(w:World) (C:Array Value) (n c:Nat)=>Lib.run_convert_bytes_const (P:=prog) w 28 5 C n c underlying28 underlying5;go_enter func28,ntmps28;go_wp2_with first|(go_at_call 60;refine(C1.out _).mono ?_;rintro _ wq ⟨rfl,hx⟩;have ir:=hx.symm;clear hx;subst ir)|(go_at_call 61;refine(C2.out _).mono ?_;rintro _ wq ⟨rfl,hx⟩;have ir:=hx.symm;clear hx;subst ir)|(go_at_call 14;refine C3.out.mono ?_;rintro _ w1 ⟨g0,cap,g1,rfl,bp,dr,mN⟩;replace bp:=hide bp)
 go_ret;refine⟨?_,du.out.trans (bp.out.mono (by simp))⟩;have e:((strOf [70,0,5,0,2,2,1,1,0,1,154,128]).toList== [70,0,5,0,2,2,1,1,0,1,154,128])=true:=by decide+kernel
 show Ending.returned (.bool ((strOf [70,0,5,0,2,2,1,1,0,1,154,128]).toList== [70,0,5,0,2,2,1,1,0,1,154,128]))=_;rw[e]
open Go.RowKit
def dn(c:Int)(n:Nat):Nat:=if c<0 then((-(c+1))%n).toNat else(c%n).toNat
theorem fq(c:Int)(hn:0<n):dn c n<n:=by
 unfold dn;have h1:=Int.emod_lt_of_pos (-(c+1)) (show(0:Int)<n by omega);have h2:=Int.emod_nonneg (-(c+1)) (show(n:Int)≠0 by omega);have h3:=Int.emod_lt_of_pos c (show(0:Int)<n by omega);have h4:=Int.emod_nonneg c (show(n:Int)≠0 by omega);split<;>omega
theorem P_(c:Int)(n:Nat)(hc:(Lit.int .i64 c).wf=true)(hn:0<n)(kq:n<=65536)(w:World):
  Calls prog 13 #[.int .i64 c,.int .i64 n] w fun e w'=>e= .returned (.int .i64 (dn c n:Nat))/\w'=w:=by
 have hb: -9223372036854775808<=c/\c<=9223372036854775807:=by
  simp[Lit.wf,IntKind.min,IntKind.max,IntKind.signed,IntKind.bits]at hc;omega
 obtain⟨bp,cq⟩:=hb;clear hc;by_cases h:c<0
 .have e:((dn c n:Nat):Int)=(-(c+1))%(n:Int):=by
   unfold dn;rw[if_pos h];have h2:=Int.emod_nonneg (-(c+1)) (show(n:Int)≠0 by omega);omega
  rw[e];clear e;go_enter func13,ntmps13;go_wp2;go_ret;refine⟨?_,rfl⟩;show Ending.returned (.int .i64 (-(c+1).tmod n))=_;rw[<-Int.neg_tmod,Int.tmod_eq_emod_of_nonneg (by omega)]
 .have e:((dn c n:Nat):Int)=c%(n:Int):=by
   unfold dn;rw[if_neg h];have h2:=Int.emod_nonneg c (show(n:Int)≠0 by omega);omega
  rw[e];clear e;go_enter func13,ntmps13;go_wp2;go_ret;exact⟨rfl,rfl⟩
theorem ng(c:Int)(n:Nat)(m:Int)(hm:m=(n:Int))(hc:(Lit.int .i64 c).wf=true)(hn:0<n)(kq:n<=65536)(w:World):
  Calls prog 13 #[.int .i64 c,.int .i64 m] w fun e w'=>e= .returned (.int .i64 (dn c n:Nat))/\w'=w:=by
 subst hm;exact P_ c n hc hn kq w
theorem Vr(x y z:Int)(w0:Hid ((Lit.int .i64 x).wf=true))(w1:Hid ((Lit.int .i64 y).wf=true))(w2:Hid ((Lit.int .i64 z).wf=true))(w:World):
  Calls prog 11 #[.int .i64 x,.int .i64 y,.int .i64 z] w fun e w'=>
   e= .returned (.agg #[.int .i64 ((1+dn x 16:Nat):Int),.int .i64 ((1+dn y 20:Nat):Int),.int .i64 ((dn z 21:Nat):Int)])/\Below w.heap.size w w':=by
 have h0:=fq x (n:=16) (by omega);have h1:=fq y (n:=20) (by omega);have h2:=fq z (n:=21) (by omega);have P0:=hide (fun w=>ng x 16 16 rfl w0.out (by omega) (by omega) w);have P1:=hide (fun w=>ng y 20 20 rfl w1.out (by omega) (by omega) w);have P2:=hide (fun w=>ng z 21 21 rfl w2.out (by omega) (by omega) w);have du:=hide ((Below.refl w.heap.size w).alloc (Nat.le_refl _) (.cells #[.int .i64 0,.int .i64 0,.int .i64 0] 35));revert h0 h1 h2 P0 P1 P2;generalize dn x 16=a;generalize dn y 20=b;generalize dn z 21=c;intro h0 h1 h2 P0 P1 P2;go_enter func11,ntmps11;go_wp2_with fail
 refine(P0.out _).mono ?_;rintro _ wq ⟨rfl,ie⟩;have ir:=ie.symm;clear ie;subst ir;go_wp2_with fail
 refine(P1.out _).mono ?_;rintro _ wq ⟨rfl,ie⟩;have ir:=ie.symm;clear ie;subst ir;go_wp2_with fail
 refine(P2.out _).mono ?_;rintro _ wq ⟨rfl,ie⟩;have ir:=ie.symm;clear ie;subst ir;go_wp2;refine bodyPost_ret (v:=.agg #[.int .i64 (1+(a:Int)),.int .i64 (1+(b:Int)),.int .i64 (c:Int)]) (by simp[results,results11,go_sem]) rfl ⟨?_,(Below.refl _ _).alloc (Nat.le_refl _) _⟩;have e1:((1+a:Nat):Int)=1+(a:Int):=by omega
 have e2:((1+b:Nat):Int)=1+(b:Int):=by omega
 rw[e1,e2]
def bytesOf(s:ByteArray):List Nat:=s.data.toList.map UInt8.toNat
theorem bytesOf_length(s:ByteArray):(bytesOf s).length=s.size:=by
 unfold bytesOf;rw[List.length_map,Array.length_toList];rfl
theorem AO(s:ByteArray):∀x∈bytesOf s,x<256:=by
 intro x hx;unfold bytesOf at hx;obtain⟨b,_,rfl⟩:=List.mem_map.1 hx;exact b.toNat_lt
theorem bytesOf_take(s:ByteArray)(n:Nat):bytesOf (s.extract 0 n)=(bytesOf s).take n:=by
 unfold bytesOf;rw[ByteArray.data_extract];simp[List.map_take]
theorem zD(w:World)(t:ByteArray)(cap:Nat)(fr:Nat×Nat):mF (w.alloc (.cells (bytesRow t cap) 5 fr)) (some ⟨w.heap.size,0,none⟩) t.size (bytesOf t):=by
 refine⟨bytesOf_length t,AO t,fun _=>⟨_,_,rfl,fun j hj=>?_⟩⟩;rw[Nat.zero_add];apply bU;have qk:j<t.data.size:=hj;unfold bytesRow bytesOf;rw[Array.getElem?_append_left (by simpa using hj)];have e:t.data[j]? =some (t.data[j]'qk):=Array.getElem?_eq_getElem qk;simp[e]
theorem Lp(s:ByteArray)(m n:Nat)(hm:m<=65536)(hs:s.size<=maxLen)(hn:n=min s.size m)(w:World):
  Calls prog 12 #[.string s,.int .i64 m] w fun e w'=>
   ∃cap,e= .returned (.slice (some ⟨w.heap.size,0,none⟩) n cap)/\n<=cap/\cap<=maxLen/\mF w' (some ⟨w.heap.size,0,none⟩) n ((bytesOf s).take n)/\Below w.heap.size w w':=by
 have kc:=fun(w:World) (s:ByteArray)=>run_bytes_of_string (P:=prog) w 9 28 5 s underlying9 underlying28 underlying5;have nB:=hs;unfold maxLen at nB;by_cases h:m<s.size
 .have e:n=m:=by omega
  subst e;clear hn;have hO:=hide (zD w (s.extract 0 n) (grownCap w (min n s.size) 0 5) ((bytesRow (s.extract 0 n) (grownCap w (min n s.size) 0 5)).size,(bytesRow (s.extract 0 n) (grownCap w (min n s.size) 0 5)).size+1));have J':Hid (min n s.size=n):=by show min n s.size=n;omega
  have eJ:=hide (grownCap_ge w (min n s.size) 0 5);have hle:=hide (grownCap_le_maxLen w (min n s.size) 0 5 (by omega));have cC:Hid ((s.extract 0 n).size=n):=by show _=_;rw[ByteArray.size_extract];omega
  go_enter func12,ntmps12;go_wp2;go_ret;refine⟨grownCap w (min n s.size) 0 5,?_,?_,hle.out,?_,((Below.refl _ _).alloc (Nat.le_refl _) _).drew⟩
  .show Ending.returned (.slice _ (min n s.size) _)=_;rw[J'.out]
  .have:=eJ.out;have:=J'.out;omega
  .have h1:=hO.out;rw[cC.out,bytesOf_take]at h1;exact h1.later ((Below.refl _ _).drew)
 .have e:n=s.size:=by omega
  subst e;clear hn;have hO:=hide (zD w s (grownCap w s.size 0 5) ((bytesRow s (grownCap w s.size 0 5)).size,(bytesRow s (grownCap w s.size 0 5)).size+1));have eJ:=hide (grownCap_ge w s.size 0 5);have hle:=hide (grownCap_le_maxLen w s.size 0 5 hs);go_enter func12,ntmps12;go_wp2;go_ret;refine⟨grownCap w s.size 0 5,rfl,eJ.out,hle.out,?_,((Below.refl _ _).alloc (Nat.le_refl _) _).drew⟩;rw[List.take_of_length_le (by rw[bytesOf_length];omega)];exact hO.out.later ((Below.refl _ _).drew)
def manyN(len s m:Nat):Bool:=decide (256<((len+s-1)/s+m-1)/m)
theorem zK{len:Nat}(hm:1<=m):manyN len s m= !decide (Cut.blocks (Cut.pieces len s) m<=256):=by
 unfold manyN Cut.blocks Cut.pieces;rcases Nat.lt_or_ge ((len+s-1)/s) 1 with h|h
 .have e:(len+s-1)/s=0:=Nat.lt_one_iff.1 h;rw[e];have e2:max 1 0=1:=rfl;have h1:(0+m-1)/m=0:=Nat.div_eq_of_lt (by omega);have h2:(max 1 0+m-1)/m=1:=by rw[e2,show 1+m-1=m by omega];exact Nat.div_self (by omega)
  rw[h1,h2];decide
 .have e:max 1 ((len+s-1)/s)=(len+s-1)/s:=by omega
  rw[e];by_cases h:((len+s-1)/s+m-1)/m<=256
  .rw[decide_eq_true h,decide_eq_false (by omega)];rfl
  .rw[decide_eq_false h,decide_eq_true (by omega)];rfl
theorem Du(len s m p:Nat)(hl:len<=65536)(h1:1<=s)(h2:s<=16)(h3:1<=m)(h4:m<=20)(w:World):
  Calls prog 17 #[.int .i64 len,.agg #[.int .i64 s,.int .i64 m,.int .i64 p]] w fun e w'=>e= .returned (.bool (manyN len s m))/\Below w.heap.size w w':=by
 have du:=hide ((Below.refl w.heap.size w).alloc (Nat.le_refl _) (.cells #[.int .i64 s,.int .i64 m,.int .i64 p] 35));obtain⟨q,hq⟩:∃q,q=(len+s-1)/s:=⟨_,rfl⟩;obtain⟨r,hr⟩:∃r,r=(q+m-1)/m:=⟨_,rfl⟩;have e1:((len:Int)+(s:Int)-1)/(s:Int)=(q:Int):=by
  rw[hq,Int.natCast_ediv];congr 1;omega
 have cI:q<=65552:=by
  rw[hq];exact Nat.le_trans (Nat.div_le_self _ _) (by omega)
 have e2:((q:Int)+(m:Int)-1)/(m:Int)=(r:Int):=by
  rw[hr,Int.natCast_ediv];congr 1;omega
 have hB:Hid (manyN len s m=decide ((256:Int)<(r:Int))):=by
  show _=_;unfold manyN;rw[<-hq,<-hr];by_cases h:256<r
  .rw[decide_eq_true h,decide_eq_true (by omega)]
  .rw[decide_eq_false h,decide_eq_false (by omega)]
 have dE:r<=70000:=by rw[hr];exact Nat.le_trans (Nat.div_le_self _ _) (by omega)
 clear hq hr;rw[hB.out];go_enter func17,ntmps17;go_wp2;go_ret;exact⟨rfl,du.out⟩
structure fF(w:World)(gl T c:Nat)(cur:List Value)(ps:List (List Nat)):Prop where
 row:aB w gl 28 cur
 len:ps.length=T
 at_:∀(q:Nat) (bs:List Nat),ps[q]? =some bs->∃g,cur[q]? =some (uj c g)/\aB w g 5 (bO bs)
theorem Packs.opened{B:Nat}{v:Value}{c:Nat}{ps:List (List Nat)}{gs:List Nat}(h:Packs w B v c ps gs)(hp:0<ps.length):∃gl cap cur,v= .slice (some ⟨gl,0,none⟩) ps.length cap/\fF w gl ps.length c cur ps:=by
 obtain⟨g,cap,cur,rfl,hr,h1,h2,h3,h4⟩:=h.own.open' (by rw[List.length_map,h.len];exact hp);refine⟨g,cap,cur,by rw[List.length_map,h.len],hr,rfl,fun q bs hq=>?_⟩;have ai:q<gs.length:=by rw[h.len];exact(List.getElem?_eq_some_iff.1 hq).1
 refine⟨gs[q],take_at h4 (by simp[ai]),h.row q _ _ (by simp[ai]) hq⟩
theorem Cb(ao:Option Addr)(n cap id s m p T:Nat)(obj L:List Nat)(hid:id<65536)(hl:n<=2000)(h1:1<=s)(h2:s<=16)(h3:1<=m)(h4:m<=20)(h5:p<=20)(hm:manyN n s m=false)(hL:L=Cut.sizes n s m)(hT:Pk.start L p L.length=T)(w:World)(gI:mF w ao n obj):
  Calls prog 14 #[.int .i64 id,.slice ao n cap,.agg #[.int .i64 s,.int .i64 m,.int .i64 p]] w fun e w'=>
   ∃gl cap cur,e= .returned (.tuple #[.slice (some ⟨gl,0,none⟩) T cap,.int .i64 0])/\fF w' gl T (10+s) cur (Pk.packets id obj s m p)/\Below w.heap.size w w':=by
 have hc:Cut.blocks (Cut.pieces n s) m<=256:=by
  rw[zK h3]at hm;simpa using hm
 refine(rG ao n cap id s m p obj hid hl h1 h2 h3 h4 h5 hc w gI).mono ?_;rintro e w' ⟨v,gs,rfl,hp,hb⟩;have hlen:(Pk.packets id obj s m p).length=T:=by
  unfold Pk.packets;rw[gI.1,Pk.oZ (Nat.le_refl _),<-hL,hT]
 have eL:0<T:=by
  rw[<-hT];have bp:=Cut.lI (Cut.iH n s) h3;have hs:=Cut.vG (len:=n) (s:=s) h3;have iu:=Cut.iH n s;unfold Pk.start;rw[List.take_length,hL,hs];omega
 obtain⟨gl,cap',cur,rfl,sX⟩:=hp.opened (by omega);rw[hlen]at sX;exact⟨gl,cap',cur,by rw[hlen],sX,hb⟩
theorem Jz(ao:Option Addr)(n cap:Nat)(id:Int)(s m p:Nat)(hl:n<=2000)(h1:1<=s)(h2:s<=16)(h3:1<=m)(h4:m<=20)(h5:p<=20)(hm:manyN n s m=true)(w:World):
  Calls prog 14 #[.int .i64 id,.slice ao n cap,.agg #[.int .i64 s,.int .i64 m,.int .i64 p]] w fun e w'=>e= .returned (.tuple #[.slice none 0 0,.int .i64 1])/\Below w.heap.size w w':=
 Cc ao n cap id s m p hl h1 h2 h3 h4 h5 (by rw[zK h3]at hm;simpa using hm) w
theorem yL(a b:List Nat):bO (a++b)=bO a++bO b:=by simp[bO]
theorem Qf{I:Nat}{obj L:List Nat}(gI:obj.length=n)(hL:L=Cut.sizes n s m)(M:Nat)(hM:M=Cut.pieces n s*s)(hk:k<L.length)(hi:i<L[k]?.getD 0+p):
  (Pk.packets I obj s m p)[Pk.start L p k+i]? =some (Pk.packet I n s m p k i (Pk.pieceN (Pk.mD (Pk.filled obj M) L s k) s (L[k]?.getD 0) i)):=by
 unfold Pk.packets;rw[gI,<-hL,<-hM];exact Pk.WY _ hk (Nat.le_refl _) hi
theorem f_{D L:List Nat}{N M:Nat}(hk:k<L.length)(hN:L.sum=N)(hM:M=N*s)(hD:D.length=M):(Pk.mD D L s k).length=L[k]?.getD 0*s:=by
 unfold Pk.mD;rw[List.length_take,List.length_drop,hD,hM];have h1:=lM L (k+1);rw[jH (getD_some hk),hN]at h1;have h2:=Nat.mul_le_mul_right s h1;rw[Nat.add_mul]at h2;omega
theorem H6{L:List Nat}{q:Nat}:∀Z,Z<=L.length->q<Pk.start L p Z->∃k i,k<Z/\i<L[k]?.getD 0+p/\q=Pk.start L p k+i:=by
 intro Z;induction Z with
 |zero=>intro _ h;simp[Pk.start]at h
 |succ Z ih=>
  intro hZ h;by_cases hq:q<Pk.start L p Z
  .obtain⟨k,i,h1,h2,h3⟩:=ih (by omega) hq;exact⟨k,i,by omega,h2,h3⟩
  .have:=Pk.jy (p:=p) (show Z<L.length by omega);exact⟨Z,q-Pk.start L p Z,by omega,by omega,by omega⟩
namespace Tx
def val(f:Nat->Nat)(a:Nat):Nat->Nat
 |0=>0
 |n+1=>2*val f a n+f (a+n)
theorem kQ(hf:∀k,f k<2)(a n:Nat):val f a n<2^n:=by
 induction n with
 |zero=>simp[val]
 |succ n ih=>have:=hf (a+n);rw[val,Nat.pow_succ];omega
theorem val_add(f:Nat->Nat)(a m n:Nat):val f a (m+n)=val f a m*2^n+val f (a+m) n:=by
 induction n with
 |zero=>simp[val]
 |succ n ih=>
  have e:val f a m*(2^n*2)=2*(val f a m*2^n):=by rw[<-Nat.mul_assoc,Nat.mul_comm]
  rw[<-Nat.add_assoc,val,ih,val,Nat.pow_succ,Nat.add_assoc a m n,e];omega
theorem Ep(hf:∀k,f k<2)(a m n:Nat):val f a (m+n)/2^n=val f a m:=by
 rw[val_add,Nat.mul_comm,Nat.mul_add_div (Nat.two_pow_pos n),Nat.div_eq_of_lt (kQ hf _ _),Nat.add_zero]
theorem val_mod(hf:∀k,f k<2)(a m n:Nat):val f a (m+n)%2^n=val f (a+m) n:=by
 rw[val_add,Nat.mul_comm,Nat.mul_add_mod,Nat.mod_eq_of_lt (kQ hf _ _)]
theorem val_congr{g:Nat->Nat}(h:∀i,i<n->f (a+i)=g (b+i)):val f a n=val g b n:=by
 induction n with
 |zero=>rfl
 |succ n ih=>rw[val,val,ih (fun i hi=>h i (by omega)),h n (by omega)]
theorem val_zero(h:∀i,i<n->f (a+i)=0):val f a n=0:=by
 induction n with
 |zero=>rfl
 |succ n ih=>rw[val,ih (fun i hi=>h i (by omega)),h n (by omega)]
def lJ(d:List Nat)(k:Nat):Nat:=d[k/8]?.getD 0/2^(7-k%8)%2
def nV(t:List Nat)(k:Nat):Nat:=t[k/6]?.getD 0/2^(5-k%6)%2
theorem kJ(d:List Nat)(k:Nat):lJ d k<2:=Nat.mod_lt _ (by decide)
theorem uO(t:List Nat)(k:Nat):nV t k<2:=Nat.mod_lt _ (by decide)
theorem xI{d:List Nat}(h:8*d.length<=k):lJ d k=0:=by
 unfold lJ;rw[List.getElem?_eq_none (by omega)];simp
theorem R9:∀x,x<256->val (fun i=>x/2^(7-i%8)%2) 0 8=x:=by decide
theorem R_:∀x,x<64->val (fun i=>x/2^(5-i%6)%2) 0 6=x:=by decide
theorem Gw(d:List Nat)(m:Nat)(h:d[m]?.getD 0<256):val (lJ d) (8*m) 8=d[m]?.getD 0:=by
 refine Eq.trans (val_congr (g:=fun i=>d[m]?.getD 0/2^(7-i%8)%2) (b:=0) fun i hi=>?_) (R9 _ h);unfold lJ;have e1:(8*m+i)/8=m:=by omega
 have e2:(8*m+i)%8=(0+i)%8:=by omega
 rw[e1,e2]
theorem WV(t:List Nat)(m:Nat)(h:t[m]?.getD 0<64):val (nV t) (6*m) 6=t[m]?.getD 0:=by
 refine Eq.trans (val_congr (g:=fun i=>t[m]?.getD 0/2^(5-i%6)%2) (b:=0) fun i hi=>?_) (R_ _ h);unfold nV;have e1:(6*m+i)/6=m:=by omega
 have e2:(6*m+i)%6=(0+i)%6:=by omega
 rw[e1,e2]
theorem RA(h:k<6*t.length):nV (t++ [x]) k=nV t k:=by
 unfold nV;rw[List.getElem?_append_left (by omega)]
theorem uW(h:a+n<=6*t.length):val (nV (t++ [x])) a n=val (nV t) a n:=
 val_congr fun i hi=>RA (by omega)
def dM(n:Nat):List Nat:=if n<26 then [65+n]else if n<52 then [71+n]else [206,125+n]
def rn(n:Nat):Nat:=if n<26 then 65+n else if n<52 then 71+n else 893+n
theorem ZP(ha:a<64)(hb:b<64)(h:rn a=rn b):a=b:=by
 unfold rn at h;split at h<;>split at h<;>(try split at h)<;>(try split at h)<;>omega
def pre(d:List Nat)(e:Nat):List Nat:=(List.range e).flatMap (fun j=>dM (val (lJ d) (6*j) 6))
theorem TP(d:List Nat):pre d 0= []:=rfl
theorem zw(d:List Nat)(e:Nat):pre d (e+1)=pre d e++dM (val (lJ d) (6*e) 6):=by
 unfold pre;rw[List.range_succ,List.flatMap_append];simp
theorem xB(n:Nat):(dM n).length<=2:=by
 unfold dM;split
 .simp
 .split<;>simp
theorem lu(d:List Nat)(e:Nat):(pre d e).length<=2*e:=by
 induction e with
 |zero=>simp[TP]
 |succ e ih=>have:=xB (val (lJ d) (6*e) 6);rw[zw,List.length_append];omega
theorem X3(h:n<64):∀x∈dM n,x<256:=by
 intro x hx;unfold dM at hx;split at hx
 .simp at hx;omega
 .split at hx
  iterate 2 (·simp at hx;omega)
theorem zx(d:List Nat)(e:Nat):∀x∈pre d e,x<256:=by
 intro x hx;unfold pre at hx;rw[List.mem_flatMap]at hx;obtain⟨j,_,h⟩:=hx;exact X3 (kQ (kJ d) _ 6) x h
def dh(d:List Nat):List Nat:=pre d ((8*d.length+5)/6)
abbrev greek(bs:List Nat)(i:Nat):Prop:=bs[i]?.getD 0=206/\i+1<bs.length/\177<=bs[i+1]?.getD 0/\bs[i+1]?.getD 0<=188
def numAt(bs:List Nat)(i:Nat):Int:=
 if bs[i]?.getD 0=32\/bs[i]?.getD 0=10 then-1
 else if 65<=bs[i]?.getD 0/\bs[i]?.getD 0<=90 then(bs[i]?.getD 0:Int)-65
 else if 97<=bs[i]?.getD 0/\bs[i]?.getD 0<=122 then(bs[i]?.getD 0:Int)-71
 else if greek bs i then(bs[i+1]?.getD 0:Int)-125
 else-2
def iF(bs:List Nat)(i:Nat):Nat:=if greek bs i then 2 else 1
theorem ze(bs:List Nat)(i:Nat):1<=iF bs i/\iF bs i<=2:=by unfold iF;split<;>omega
theorem PD(bs:List Nat)(i:Nat)(h:i<bs.length):i+iF bs i<=bs.length:=by
 unfold iF;split
 .rename_i hg;have:=hg.2.1;omega
 .omega
def parse(bs:List Nat):Nat->Nat->Option (List Nat)
 |0,_=>some []
 |f+1,i=>if i<bs.length then(if numAt bs i= -2 then none else if numAt bs i= -1 then parse bs f (i+1)else(parse bs f (i+iF bs i)).map ((numAt bs i).toNat:: ·))else some []
def iX(bs:List Nat):Option (List Nat):=parse bs bs.length 0
theorem Qe(bs:List Nat)(f i:Nat)(h:¬i<bs.length):parse bs f i=some []:=by
 cases f with
 |zero=>rfl
 |succ f=>rw[parse,if_neg h]
def nW(bs t:List Nat)(i:Nat):Prop:=∃f,bs.length<=i+f/\iX bs=(parse bs f i).map (t++ ·)
theorem CU(bs:List Nat):nW bs [] 0:=⟨bs.length,by omega,by rw[iX];simp⟩
theorem nW.ends(h:nW bs t i)(hi:¬i<bs.length):iX bs=some t:=by
 obtain⟨f,_,e⟩:=h;rw[e,Qe _ _ _ hi];simp
theorem nW.none(h:nW bs t i)(hi:i<bs.length)(hn:numAt bs i= -2):iX bs=none:=by
 obtain⟨f,hf,e⟩:=h;obtain⟨f,rfl⟩:∃g,f=g+1:=⟨f-1,by omega⟩;rw[e,parse,if_pos hi,if_pos hn];rfl
theorem nW.blank(h:nW bs t i)(hi:i<bs.length)(hn:numAt bs i= -1):nW bs t (i+1):=by
 obtain⟨f,hf,e⟩:=h;obtain⟨f,rfl⟩:∃g,f=g+1:=⟨f-1,by omega⟩;exact⟨f,by omega,by rw[e,parse,if_pos hi,if_neg (by omega),if_pos hn]⟩
theorem nW.letter(h:nW bs t i)(hi:i<bs.length)(hn:numAt bs i=(n:Int)):nW bs (t++ [n]) (i+iF bs i):=by
 obtain⟨f,hf,e⟩:=h;obtain⟨f,rfl⟩:∃g,f=g+1:=⟨f-1,by omega⟩;have:=ze bs i;refine⟨f,by omega,?_⟩;rw[e,parse,if_pos hi,if_neg (by omega),if_neg (by omega),hn];simp;cases parse bs f (i+iF bs i)<;>simp
def eZ(t:List Nat):List Nat:=(List.range (6*t.length/8)).map (fun j=>val (nV t) (8*j) 8)
abbrev rV(t:List Nat):Prop:=6*t.length%8<6/\val (nV t) (8*(6*t.length/8)) (6*t.length%8)=0
def dI(bs:List Nat):Option (List Nat):=(iX bs).bind (fun t=>if rV t then some (eZ t)else none)
theorem mM(t:List Nat):(eZ t).length=6*t.length/8:=by simp[eZ]
theorem Ru(t:List Nat):∀x∈eZ t,x<256:=by
 intro x hx;simp only[eZ,List.mem_map]at hx;obtain⟨j,_,rfl⟩:=hx;exact kQ (uO t) _ 8
theorem vT(h:6*(t.length+1)/8=6*t.length/8):eZ (t++ [x])=eZ t:=by
 unfold eZ;rw[List.length_append,List.length_singleton,h];apply List.map_congr_left;intro j hj;rw[List.mem_range]at hj;exact uW (by omega)
theorem vU(h:6*(t.length+1)/8=6*t.length/8+1):eZ (t++ [x])=eZ t++ [val (nV (t++ [x])) (8*(6*t.length/8)) 8]:=by
 unfold eZ;rw[List.length_append,List.length_singleton,h,List.range_succ,List.map_append];congr 1
 apply List.map_congr_left;intro j hj;rw[List.mem_range]at hj;exact uW (by omega)
theorem R8(hn:n<64):val (nV (t++ [n])) (8*(6*t.length/8)) (6*t.length%8+6)=val (nV t) (8*(6*t.length/8)) (6*t.length%8)*64+n:=by
 have e:8*(6*t.length/8)+6*t.length%8=6*t.length:=by omega
 have h6:(t++ [n])[t.length]?.getD 0=n:=by simp
 have hv:=WV (t++ [n]) t.length (by rw[h6];exact hn);rw[val_add,uW (by omega),e,hv,h6]
abbrev bT(l:List Nat):Prop:=
 11<=l.length/\l[0]?.getD 0=70/\256*l[3]?.getD 0+l[4]?.getD 0<=2000/\(1<=l[5]?.getD 0/\l[5]?.getD 0<=16)/\(1<=l[6]?.getD 0/\l[6]?.getD 0<=20)/\l[7]?.getD 0<=20/\
 Cut.blocks (Cut.pieces (256*l[3]?.getD 0+l[4]?.getD 0) (l[5]?.getD 0)) (l[6]?.getD 0)<=256/\
 l[8]?.getD 0<Cut.blocks (Cut.pieces (256*l[3]?.getD 0+l[4]?.getD 0) (l[5]?.getD 0)) (l[6]?.getD 0)/\
 l[9]?.getD 0<(Cut.sizes (256*l[3]?.getD 0+l[4]?.getD 0) (l[5]?.getD 0) (l[6]?.getD 0))[l[8]?.getD 0]?.getD 0+l[7]?.getD 0/\
 l.length=10+l[5]?.getD 0
end Tx
end
section
open Go.RowKit Go.Deep
def bq(e:Int):Value:=.iface 116 (.agg #[.int .i64 e])
theorem kK(e:Int)(w:World):Calls prog 81 #[.bool true,.int .i64 e] w fun r w'=>r= .returned (.tuple #[])/\w'=w:=by
 go_enter func81,ntmps81;go_wp2;go_end0;exact⟨rfl,rfl⟩
theorem jr(e:Int)(w:World):Calls prog 81 #[.bool false,.int .i64 e] w fun r w'=>r= .panicked [{v:=bq e,recovered:=false}]/\w'=w:=by
 go_enter func81,ntmps81;go_wp2;exact⟨rfl,rfl,rfl⟩
theorem gH(w:World):Calls prog 68 #[.bool true] w fun r w'=>r= .returned (.tuple #[])/\w'=w:=by
 go_enter func68,ntmps68;go_wp2_with (go_at_call 81;refine(kK _ _).mono ?_;rintro _ _ ⟨rfl,rfl⟩)
 go_end0;exact⟨rfl,rfl⟩
theorem nL(w:World):Calls prog 68 #[.bool false] w fun r w'=>r= .panicked [{v:=bq 2,recovered:=false}]/\w'=w:=by
 go_enter func68,ntmps68;go_wp2_with (go_at_call 81;refine(jr _ _).mono ?_;rintro _ _ ⟨rfl,rfl⟩)
 exact⟨rfl,rfl,rfl⟩
theorem MJ(a b:Nat)(ha:a<4294967296)(hb:b<4294967296):bits .or .i64 (a:Int) (b:Int)=((a ||| b:Nat):Int):=by
 have hx:a ||| b<2^32:=Nat.or_lt_two_pow (by omega) (by omega);show IntKind.i64.wrap ((BitVec.ofInt 64 (a:Int) ||| BitVec.ofInt 64 (b:Int)).toNat:Int)=_;rw[BitVec.toNat_or,ofInt_u64 a (by omega),ofInt_u64 b (by omega),aH _ (by omega) (by omega)]
theorem LX(a:Nat){b k:Nat}(hb:b<2^k):a*2^k ||| b=a*2^k+b:=by
 have:=Nat.two_pow_add_eq_or_of_lt (i:=k) (b:=b) hb a;rw[Nat.mul_comm (2^k) a]at this;exact this.symm
theorem Dp(a b:Nat)(ha:a<256)(hb:b<256)(w:World):Calls prog 118 #[.int .u8 a,.int .u8 b] w fun r w'=>r= .returned (.int .i64 ((256*a+b:Nat):Int))/\w'=w:=by
 have Ds:bits .or .i64 ((a:Int)*256) (b:Int)=((256*a+b:Nat):Int):=by
  have h1:=MJ (a*256) b (by omega) (by omega);rw[LX a (k:=8) hb]at h1;rw[show((a*256:Nat):Int)=(a:Int)*256 by omega]at h1;rw[h1];omega
 go_enter func118,ntmps118;go_wp2;go_ret;exact⟨rfl,rfl⟩
def dU(id len s m p z q:Nat):Value:=.agg #[.int .i64 id,.int .i64 len,.int .i64 s,.int .i64 m,.int .i64 p,.int .i64 z,.int .i64 q]
set_option linter.unusedSimpArgs false in
theorem fC(b off n cap c1 c2 c3 c4 c5 c6 c7 c8 c9:Nat)(hn:10<n)(h1:c1<256)(h2:c2<256)(h3:c3<256)(h4:c4<256)(h5:c5<256)(h6:c6<256)(h7:c7<256)(h8:c8<256)(h9:c9<256)(w:World)
  (d1:w.cell? ⟨b,off+1,none⟩=some (.int .u8 c1))(d2:w.cell? ⟨b,off+2,none⟩=some (.int .u8 c2))(d3:w.cell? ⟨b,off+3,none⟩=some (.int .u8 c3))(d4:w.cell? ⟨b,off+4,none⟩=some (.int .u8 c4))(d5:w.cell? ⟨b,off+5,none⟩=some (.int .u8 c5))
  (d6:w.cell? ⟨b,off+6,none⟩=some (.int .u8 c6))(d7:w.cell? ⟨b,off+7,none⟩=some (.int .u8 c7))(d8:w.cell? ⟨b,off+8,none⟩=some (.int .u8 c8))(d9:w.cell? ⟨b,off+9,none⟩=some (.int .u8 c9)):
  Calls prog 69 #[.slice (some ⟨b,off,none⟩) n cap] w fun r w'=>r= .returned (dU (256*c1+c2) (256*c3+c4) c5 c6 c7 c8 c9)/\Below w.heap.size w w':=by
 go_enter func69,ntmps69;go_wp2_with fail
 have u5:=aH (c5:Int) (by omega) (by omega);have u6:=aH (c6:Int) (by omega) (by omega);have u7:=aH (c7:Int) (by omega) (by omega);have u8:=aH (c8:Int) (by omega) (by omega);have u9:=aH (c9:Int) (by omega) (by omega);have n1:(1:Int)<(n:Int):=by omega
 have n2:(2:Int)<(n:Int):=by omega
 have n3:(3:Int)<(n:Int):=by omega
 have n4:(4:Int)<(n:Int):=by omega
 have n5:(5:Int)<(n:Int):=by omega
 have n6:(6:Int)<(n:Int):=by omega
 have n7:(7:Int)<(n:Int):=by omega
 have n8:(8:Int)<(n:Int):=by omega
 have n9:(9:Int)<(n:Int):=by omega
 refine wp_region_held_drew (S:=fun w'=>Below w.heap.size w w') (by kernel_rfl) (((Below.refl _ _).alloc (Nat.le_refl _) _).drew) (fun kh=>?_);refine wpAnyH_take (i:=0) (v:=?v1) rfl (by kernel_rfl) (by kernel_rfl) (by kernel_rfl) (fun _ _ _ h=>h) (Or.inl ⟨by rfl,?sA⟩) (by assumption) ?rest1
 case sA=>(intro wz bz;go_simp;try (with_reducible rfl))
 try go_frame
 refine wpAnyH_take (i:=1) (v:=?v2) rfl (by kernel_rfl) (by kernel_rfl) (by kernel_rfl) (fun _ _ _ h=>h) (Or.inl ⟨by rfl,?sx⟩) (by assumption) ?rest2
 case sx=>(intro wz bz;go_simp;try (with_reducible rfl))
 try go_frame
 refine wpAnyH_take (i:=2) (v:=?v3) rfl (by kernel_rfl) (by kernel_rfl) (by kernel_rfl) (fun _ _ _ h=>h) (Or.inl ⟨by rfl,?CI⟩) (by assumption) ?rest3
 case CI=>(intro wz bz;have eR:=cell_later bz d1;go_simp;try (with_reducible rfl))
 try go_frame
 refine wpAnyH_take (i:=3) (v:=?v4) rfl (by kernel_rfl) (by kernel_rfl) (by kernel_rfl) (fun _ _ _ h=>h) (Or.inl ⟨by rfl,?CE⟩) (by assumption) ?rest4
 case CE=>(intro wz bz;go_simp;try (with_reducible rfl))
 try go_frame
 refine wpAnyH_take (i:=4) (v:=?v5) rfl (by kernel_rfl) (by kernel_rfl) (by kernel_rfl) (fun _ _ _ h=>h) (Or.inl ⟨by rfl,?CC⟩) (by assumption) ?rest5
 case CC=>(intro wz bz;go_simp;try (with_reducible rfl))
 try go_frame
 refine wpAnyH_take (i:=5) (v:=?v6) rfl (by kernel_rfl) (by kernel_rfl) (by kernel_rfl) (fun _ _ _ h=>h) (Or.inl ⟨by rfl,?Cz⟩) (by assumption) ?rest6
 case Cz=>(intro wz bz;have eR:=cell_later bz d2;go_simp;try (with_reducible rfl))
 try go_frame
 refine wpAnyH_take (i:=7) (v:=?v7) rfl (by kernel_rfl) (by kernel_rfl) (by kernel_rfl) (fun _ _ _ h=>h) (Or.inl ⟨by rfl,?Cy⟩) (by assumption) ?rest7
 case Cy=>(intro wz bz;go_simp;try (with_reducible rfl))
 try go_frame
 refine wpAnyH_take (i:=8) (v:=?v8) rfl (by kernel_rfl) (by kernel_rfl) (by kernel_rfl) (fun _ _ _ h=>h) (Or.inl ⟨by rfl,?Cw⟩) (by assumption) ?rest8
 case Cw=>(intro wz bz;go_simp;try (with_reducible rfl))
 try go_frame
 refine wpAnyH_take (i:=9) (v:=?v9) rfl (by kernel_rfl) (by kernel_rfl) (by kernel_rfl) (fun _ _ _ h=>h) (Or.inl ⟨by rfl,?Cv⟩) (by assumption) ?rest9
 case Cv=>(intro wz bz;have eR:=cell_later bz d3;go_simp;try (with_reducible rfl))
 try go_frame
 refine wpAnyH_take (i:=10) (v:=?v10) rfl (by kernel_rfl) (by kernel_rfl) (by kernel_rfl) (fun _ _ _ h=>h) (Or.inl ⟨by rfl,?qS⟩) (by assumption) ?rest10
 case qS=>(intro wz bz;go_simp;try (with_reducible rfl))
 try go_frame
 refine wpAnyH_take (i:=11) (v:=?v11) rfl (by kernel_rfl) (by kernel_rfl) (by kernel_rfl) (fun _ _ _ h=>h) (Or.inl ⟨by rfl,?qv⟩) (by assumption) ?rest11
 case qv=>(intro wz bz;go_simp;try (with_reducible rfl))
 try go_frame
 refine wpAnyH_take (i:=12) (v:=?v12) rfl (by kernel_rfl) (by kernel_rfl) (by kernel_rfl) (fun _ _ _ h=>h) (Or.inl ⟨by rfl,?qu⟩) (by assumption) ?rest12
 case qu=>(intro wz bz;have eR:=cell_later bz d4;go_simp;try (with_reducible rfl))
 try go_frame
 refine wpAnyH_take (i:=14) (v:=?v13) rfl (by kernel_rfl) (by kernel_rfl) (by kernel_rfl) (fun _ _ _ h=>h) (Or.inl ⟨by rfl,?xr⟩) (by assumption) ?rest13
 case xr=>(intro wz bz;go_simp;try (with_reducible rfl))
 try go_frame
 refine wpAnyH_take (i:=15) (v:=?v14) rfl (by kernel_rfl) (by kernel_rfl) (by kernel_rfl) (fun _ _ _ h=>h) (Or.inl ⟨by rfl,?xp⟩) (by assumption) ?rest14
 case xp=>(intro wz bz;go_simp;try (with_reducible rfl))
 try go_frame
 refine wpAnyH_take (i:=16) (v:=?v15) rfl (by kernel_rfl) (by kernel_rfl) (by kernel_rfl) (fun _ _ _ h=>h) (Or.inl ⟨by rfl,?xo⟩) (by assumption) ?rest15
 case xo=>(intro wz bz;have eR:=cell_later bz d5;go_simp;try (with_reducible rfl))
 try go_frame
 refine wpAnyH_take (i:=17) (v:=?v16) rfl (by kernel_rfl) (by kernel_rfl) (by kernel_rfl) (fun _ _ _ h=>h) (Or.inl ⟨by rfl,?hy16⟩) (by assumption) ?rest16
 case hy16=>(intro wz bz;go_simp;try (with_reducible rfl))
 try go_frame
 refine wpAnyH_take (i:=18) (v:=?v17) rfl (by kernel_rfl) (by kernel_rfl) (by kernel_rfl) (fun _ _ _ h=>h) (Or.inl ⟨by rfl,?hy17⟩) (by assumption) ?rest17
 case hy17=>(intro wz bz;go_simp;try (with_reducible rfl))
 try go_frame
 refine wpAnyH_take (i:=19) (v:=?v18) rfl (by kernel_rfl) (by kernel_rfl) (by kernel_rfl) (fun _ _ _ h=>h) (Or.inl ⟨by rfl,?hy18⟩) (by assumption) ?rest18
 case hy18=>(intro wz bz;go_simp;try (with_reducible rfl))
 try go_frame
 refine wpAnyH_take (i:=20) (v:=?v19) rfl (by kernel_rfl) (by kernel_rfl) (by kernel_rfl) (fun _ _ _ h=>h) (Or.inl ⟨by rfl,?hy19⟩) (by assumption) ?rest19
 case hy19=>(intro wz bz;have eR:=cell_later bz d6;go_simp;try (with_reducible rfl))
 try go_frame
 refine wpAnyH_take (i:=21) (v:=?v20) rfl (by kernel_rfl) (by kernel_rfl) (by kernel_rfl) (fun _ _ _ h=>h) (Or.inl ⟨by rfl,?hy20⟩) (by assumption) ?rest20
 case hy20=>(intro wz bz;go_simp;try (with_reducible rfl))
 try go_frame
 refine wpAnyH_take (i:=22) (v:=?v21) rfl (by kernel_rfl) (by kernel_rfl) (by kernel_rfl) (fun _ _ _ h=>h) (Or.inl ⟨by rfl,?hy21⟩) (by assumption) ?rest21
 case hy21=>(intro wz bz;go_simp;try (with_reducible rfl))
 try go_frame
 refine wpAnyH_take (i:=23) (v:=?v22) rfl (by kernel_rfl) (by kernel_rfl) (by kernel_rfl) (fun _ _ _ h=>h) (Or.inl ⟨by rfl,?hy22⟩) (by assumption) ?rest22
 case hy22=>(intro wz bz;go_simp;try (with_reducible rfl))
 try go_frame
 refine wpAnyH_take (i:=24) (v:=?v23) rfl (by kernel_rfl) (by kernel_rfl) (by kernel_rfl) (fun _ _ _ h=>h) (Or.inl ⟨by rfl,?Z'⟩) (by assumption) ?rest23
 case Z'=>(intro wz bz;have eR:=cell_later bz d7;go_simp;try (with_reducible rfl))
 try go_frame
 refine wpAnyH_take (i:=25) (v:=?v24) rfl (by kernel_rfl) (by kernel_rfl) (by kernel_rfl) (fun _ _ _ h=>h) (Or.inl ⟨by rfl,?Z6⟩) (by assumption) ?rest24
 case Z6=>(intro wz bz;go_simp;try (with_reducible rfl))
 try go_frame
 refine wpAnyH_take (i:=26) (v:=?v25) rfl (by kernel_rfl) (by kernel_rfl) (by kernel_rfl) (fun _ _ _ h=>h) (Or.inl ⟨by rfl,?Z3⟩) (by assumption) ?rest25
 case Z3=>(intro wz bz;go_simp;try (with_reducible rfl))
 try go_frame
 refine wpAnyH_take (i:=27) (v:=?v26) rfl (by kernel_rfl) (by kernel_rfl) (by kernel_rfl) (fun _ _ _ h=>h) (Or.inl ⟨by rfl,?Z2⟩) (by assumption) ?rest26
 case Z2=>(intro wz bz;go_simp;try (with_reducible rfl))
 try go_frame
 refine wpAnyH_take (i:=28) (v:=?v27) rfl (by kernel_rfl) (by kernel_rfl) (by kernel_rfl) (fun _ _ _ h=>h) (Or.inl ⟨by rfl,?Z1⟩) (by assumption) ?rest27
 case Z1=>(intro wz bz;go_simp;try (with_reducible rfl))
 try go_frame
 refine wpAnyH_take (i:=29) (v:=?v28) rfl (by kernel_rfl) (by kernel_rfl) (by kernel_rfl) (fun _ _ _ h=>h) (Or.inl ⟨by rfl,?ZZ⟩) (by assumption) ?rest28
 case ZZ=>(intro wz bz;have eR:=cell_later bz d8;go_simp;try (with_reducible rfl))
 try go_frame
 refine wpAnyH_take (i:=30) (v:=?v29) rfl (by kernel_rfl) (by kernel_rfl) (by kernel_rfl) (fun _ _ _ h=>h) (Or.inl ⟨by rfl,?ZS⟩) (by assumption) ?rest29
 case ZS=>(intro wz bz;go_simp;try (with_reducible rfl))
 try go_frame
 refine wpAnyH_take (i:=31) (v:=?v30) rfl (by kernel_rfl) (by kernel_rfl) (by kernel_rfl) (fun _ _ _ h=>h) (Or.inl ⟨by rfl,?ZD⟩) (by assumption) ?rest30
 case ZD=>(intro wz bz;go_simp;try (with_reducible rfl))
 try go_frame
 refine wpAnyH_take (i:=32) (v:=?v31) rfl (by kernel_rfl) (by kernel_rfl) (by kernel_rfl) (fun _ _ _ h=>h) (Or.inl ⟨by rfl,?Zs⟩) (by assumption) ?rest31
 case Zs=>(intro wz bz;go_simp;try (with_reducible rfl))
 try go_frame
 refine wpAnyH_take (i:=33) (v:=?v32) rfl (by kernel_rfl) (by kernel_rfl) (by kernel_rfl) (fun _ _ _ h=>h) (Or.inl ⟨by rfl,?Y'⟩) (by assumption) ?rest32
 case Y'=>(intro wz bz;have eR:=cell_later bz d9;go_simp;try (with_reducible rfl))
 try go_frame
 refine wpAnyH_take (i:=34) (v:=?v33) rfl (by kernel_rfl) (by kernel_rfl) (by kernel_rfl) (fun _ _ _ h=>h) (Or.inl ⟨by rfl,?YY⟩) (by assumption) ?rest33
 case YY=>(intro wz bz;go_simp;try (with_reducible rfl))
 try go_frame
 refine wpAnyH_ready (rs:= [6]) (by kernel_rfl) (by simp) ?_;refine AllReadyH.cons rfl (fun K hK=>?_) ?_
 .go_simp;go_at_call 118
  refine(Dp _ _ (by omega) (by omega) _).mono ?_;rintro _ _ ⟨rfl,rfl⟩;go_wp2_with fail
  refine hK.out _ _ kh (fun oX=>?_);clear hK K;try go_frame
  refine wpAnyH_ready (rs:= [13]) (by kernel_rfl) (by simp) ?_;refine AllReadyH.cons rfl (fun K hK=>?_) ?_
  .go_simp;go_at_call 118
   refine(Dp _ _ (by omega) (by omega) _).mono ?_;rintro _ _ ⟨rfl,rfl⟩;go_wp2_with fail
   refine hK.out _ _ oX (fun ur=>?_);clear hK K;try go_frame
   refine wpAnyH_take (i:=35) (v:=?v34) rfl (by kernel_rfl) (by kernel_rfl) (by kernel_rfl) (fun _ _ _ h=>h) (Or.inl ⟨by rfl,?Ys⟩) (by assumption) ?rest34
   case Ys=>(intro wz bz;go_simp;try (with_reducible rfl))
   try go_frame
   refine wpAnyH_ready (rs:= [36]) (by kernel_rfl) (by simp) ?_;refine AllReadyH.cons rfl (fun K hK=>?_) ?_
   .go_simp;refine hK.out _ _ (((Below.refl _ _).alloc (Nat.le_refl _) _).drew) (fun Ts=>?_);clear hK K;try go_frame
    refine wpAnyH_done (by kernel_rfl) ?_ _;go_wp2;refine bodyPost_ret (v:=dU (256*c1+c2) (256*c3+c4) c5 c6 c7 c8 c9) (by simp[results,results69,go_sem,dU]) rfl ⟨rfl,((Below.refl _ _).alloc (Nat.le_refl _) _).drew⟩
   exact AllReadyH.nil
  exact AllReadyH.nil
 exact AllReadyH.nil
end
